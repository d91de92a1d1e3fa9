/-
  The document's own disk of layer 9, walked: what it is; zeros, lay, New, Seen, deed.
-/
import Derived.Test.YtnndpainnoebgaaOwn
import Derived.Test.YtnndpainnoebgaaBlkA
import Derived.Test.YtnndpainnoebgaaJoin
import Derived.Laws.OwnMore
import Derived.RegionTactic
import Derived.StillTailTactics
namespace Go.Proofs.Ytnndpainnoebgaa
open Go.RowKit

/-- The document's disk in block r: seven cells. -/
structure DiskAt (W : World) (r : Nat) (n size : Int) (last : ByteArray) (v : Value) (fuse : Int) (dark : Bool) (deeds : Int) : Prop where
  c0 : W.cell? ⟨r, 0, none⟩ = some (.int .i64 n)
  c1 : W.cell? ⟨r, 1, none⟩ = some (.int .i64 size)
  c2 : W.cell? ⟨r, 2, none⟩ = some (.string last)
  c3 : W.cell? ⟨r, 3, none⟩ = some v
  c4 : W.cell? ⟨r, 4, none⟩ = some (.int .i64 fuse)
  c5 : W.cell? ⟨r, 5, none⟩ = some (.bool dark)
  c6 : W.cell? ⟨r, 6, none⟩ = some (.int .i64 deeds)
  q : ∀ i, W.frozen? ⟨r, i, none⟩ = false
  s : r < W.heap.size
/-- The cells of what waits. -/
def wcells (ws : List (Nat × List Int)) : List Value := ws.flatMap fun p => [.int .i64 (p.1 : Int), .string (strOfNums p.2)]
theorem wcells_len (ws : List (Nat × List Int)) : (wcells ws).length = ws.length * 2 := by
  induction ws with
  | nil => rfl
  | cons p ws ih => simp only [wcells, List.flatMap_cons, List.length_append, List.length_cons, List.length_nil] at ih ⊢; omega
/-- The document's disk, that leans on blocks O. -/
structure RefIs (W : World) (base : Nat) (O : Foot) (r : Nat) (D : Dsk) : Prop where
  ok : D.Ok
  own : ∀ i, O i → base ≤ i ∧ i < W.heap.size
  mem : O r
  ex : ∃ v, DiskAt W r D.n D.size (strOfNums D.last) v D.fuse D.dark D.deeds ∧ W.ownsRow base 60 2 v D.waits.length (wcells D.waits) ∧ (∀ g, v.ownBlock = some g → O g ∧ g ≠ r)
theorem DiskAt.kept {W W' : World} {r : Nat} {n size : Int} {last : ByteArray} {v : Value} {fuse : Int} {dark : Bool} {deeds : Int} (h : DiskAt W r n size last v fuse dark deeds) (hk : W'.heap[r]? = W.heap[r]?) (hs : W.heap.size ≤ W'.heap.size) : DiskAt W' r n size last v fuse dark deeds := by
  obtain ⟨c0, c1, c2, c3, c4, c5, c6, q, s⟩ := h
  refine ⟨?_, ?_, ?_, ?_, ?_, ?_, ?_, fun i => ?_, Nat.lt_of_lt_of_le s hs⟩
  all_goals first | (rw [World.cell?_of_block hk]; assumption) | (rw [World.frozen?_of_block hk]; exact q i)
theorem row_kept {W W' : World} {base : Nat} {t : TypeId} {k : Nat} {v : Value} {n : Nat} {xs : List Value} (h : W.ownsRow base t k v n xs) (hk : ∀ g, v.ownBlock = some g → W'.heap[g]? = W.heap[g]?) : W'.ownsRow base t k v n xs := by
  obtain ⟨h1, h2⟩ := h
  refine ⟨h1, ?_⟩
  rcases h2 with hx | ⟨g, cap, cur, rfl, hbg, hg, rest⟩
  · exact Or.inl hx
  · exact Or.inr ⟨g, cap, cur, rfl, hbg, (hk g rfl).trans hg, rest⟩
theorem RefIs.kept {W W' : World} {base : Nat} {O : Foot} {r : Nat} {D : Dsk} (h : RefIs W base O r D) (hk : ∀ i, O i → W'.heap[i]? = W.heap[i]?) (hs : W.heap.size ≤ W'.heap.size) : RefIs W' base O r D := by
  obtain ⟨h1, h2, h3, v, h4, h5, h6⟩ := h
  exact ⟨h1, fun i hi => ⟨(h2 i hi).1, Nat.lt_of_lt_of_le (h2 i hi).2 hs⟩, h3, v, h4.kept (hk r h3) hs, row_kept h5 (fun g hg => hk g (h6 g hg).1), h6⟩
theorem RefIs.after {W W' : World} {base : Nat} {O : Foot} {r : Nat} {D : Dsk} (h : RefIs W base O r D) (hb : Below W.heap.size W W') : RefIs W' base O r D := h.kept (fun i hi => hb.block i (h.own i hi).2) hb.size
def RefTo (base : Nat) (O : Foot) (r : Nat) (D' : Dsk) (w w' : World) : Prop := ∃ O', RefIs w' base O' r D' ∧ OnlyO base O w w' ∧ Grown O O' w.heap.size
/-- A cell of it set. -/
theorem DiskAt.set {W : World} {r : Nat} {n size : Int} {last : ByteArray} {v : Value} {fuse : Int} {dark : Bool} {deeds : Int} (h : DiskAt W r n size last v fuse dark deeds) :
    (∀ x, DiskAt (W.setCell ⟨r, 2, none⟩ (.string x)) r n size x v fuse dark deeds) ∧ (∀ x, DiskAt (W.setCell ⟨r, 3, none⟩ x) r n size last x fuse dark deeds) ∧ (∀ x : Int, DiskAt (W.setCell ⟨r, 4, none⟩ (.int .i64 x)) r n size last v x dark deeds) ∧
    (∀ x, DiskAt (W.setCell ⟨r, 5, none⟩ (.bool x)) r n size last v fuse x deeds) ∧ (∀ x : Int, DiskAt (W.setCell ⟨r, 6, none⟩ (.int .i64 x)) r n size last v fuse dark x) := by
  obtain ⟨c0, c1, c2, c3, c4, c5, c6, q, s⟩ := h
  have hq : ∀ j (x : Value) i, (W.setCell ⟨r, j, none⟩ x).frozen? ⟨r, i, none⟩ = false := fun j x i => by rw [World.frozen?_setCell]; exact q i
  refine ⟨fun x => ?_, fun x => ?_, fun x => ?_, fun x => ?_, fun x => ?_⟩
  all_goals (refine ⟨?_, ?_, ?_, ?_, ?_, ?_, ?_, hq _ _, by simpa using s⟩ <;> simp [go_sem, *])
/-- It, with cells of r set: the row of what waits is elsewhere. -/
theorem RefIs.upd {W W' : World} {base : Nat} {O : Foot} {r : Nat} {D D' : Dsk} {v : Value} (h : RefIs W base O r D) (hd : DiskAt W' r D'.n D'.size (strOfNums D'.last) v D'.fuse D'.dark D'.deeds) (hrow : W.ownsRow base 60 2 v D'.waits.length (wcells D'.waits))
    (hv : ∀ g, v.ownBlock = some g → O g ∧ g ≠ r) (hok : D'.Ok) (hk : ∀ i, i < W.heap.size → i ≠ r → W'.heap[i]? = W.heap[i]?) (hs : W.heap.size ≤ W'.heap.size) : RefIs W' base O r D' :=
  ⟨hok, fun i hi => ⟨(h.own i hi).1, Nat.lt_of_lt_of_le (h.own i hi).2 hs⟩, h.mem, v, hd, row_kept hrow (fun g hg => hk g (h.own g (hv g hg).1).2 (hv g hg).2), hv⟩
theorem set_other (W : World) (r i : Nat) (x : Value) : ∀ j, j < W.heap.size → j ≠ r → (W.setCell ⟨r, i, none⟩ x).heap[j]? = W.heap[j]? := fun j _ hne => Below.heap_setCell W ⟨r, i, none⟩ x j hne

set_option maxRecDepth 100000 in
set_option maxHeartbeats 4000000 in
theorem bzeros_any (n : Nat) (w : World) (hn : n ≤ 1000000) : Calls Try.prog 25 #[.int .i64 (n : Int)] w fun e w' => e = .returned (.string (strOfNums (List.replicate n 0))) ∧ Below w.heap.size w w' := by
  obtain ⟨i0, hi, hz0, hz1, hz2⟩ := info_parts info_byte
  obtain ⟨w1, hr, hO, hg⟩ := run_make_full (P := Try.prog) w w.heap.size 30 5 i0 (.int .u8 0) 1 Try.underlying30 hi hz0 hz1 .i64 .i64 n (by rw [hz2]; omega) (by unfold maxLen; omega) (Nat.le_refl _)
  have hcell : ∀ i, i < n → w1.cell? ⟨w.heap.size, i, none⟩ = some (.int .u8 ((List.replicate n (0 : Int)).getD i 0)) := fun i hi => by
    have h1 := hO.cells (g := w.heap.size) rfl i (.int .u8 0) (by rw [Nat.mul_one]; show (madeCells #[Value.int .u8 0] n).toList[i]? = _; rw [toList_madeCells_one, List.getElem?_replicate, if_pos hi])
    rw [List.getD_eq_getElem?_getD, List.getElem?_replicate, if_pos hi]
    rcases i with _ | i <;> simpa [Addr.add] using h1
  have hA : ArgB w1 (.slice (some ⟨w.heap.size, 0, none⟩) n n) (List.replicate n 0) := by
    refine Or.inr ⟨⟨w.heap.size, 0, none⟩, n, by rw [List.length_replicate], by rw [List.length_replicate]; exact Nat.le_refl _, fun i hi => ?_⟩
    rw [List.length_replicate] at hi
    have e : (⟨w.heap.size, 0, none⟩ : Addr).add i = ⟨w.heap.size, i, none⟩ := by unfold Addr.add; split <;> simp_all
    rw [e]; exact hcell i hi
  have hcv := conv_arg hA (fun z hz => by obtain ⟨_, rfl⟩ := List.mem_replicate.mp hz; omega)
  have HB : Hid (Below w.heap.size w w1) := (Below.refl _ _).grown hg (Nat.le_refl _) (fun b hk => by cases hk)
  clear hA hcell hO hg hi hz0 hz1 hz2
  generalize strOfNums (List.replicate n 0) = X at hcv ⊢
  go_enter Try.func25, Try.ntmps25
  go_wp2
  go_ret
  exact ⟨rfl, HB.out⟩

theorem ext_to (l : List Int) (hb : ∀ z ∈ l, 0 ≤ z ∧ z ≤ 255) (i j : Nat) : (strOfNums l).extract i j = strOfNums ((l.drop i).take (j - i)) := by
  have h1 : nums ((strOfNums l).extract i j) = ((nums (strOfNums l)).drop i).take (j - i) := by
    simp only [nums, ByteArray.data_extract, Array.toList_extract, List.extract_eq_take_drop, List.map_take, List.map_drop]
  rw [nums_strOfNums l hb] at h1
  rw [← h1, strOfNums_nums]
theorem size_of (l : List Int) : (strOfNums l).size = l.length := by rw [← nums_length]; simp [nums, strOfNums]

set_option maxRecDepth 100000 in
set_option maxHeartbeats 4000000 in
theorem blay_any (s : List Int) (p : Nat × List Int) (w : World) (hs : ∀ z ∈ s, 0 ≤ z ∧ z ≤ 255) (hl : s.length ≤ 1000000) (hfit : p.1 + p.2.length ≤ s.length) :
    Calls Try.prog 31 #[.string (strOfNums s), .agg #[.int .i64 (p.1 : Int), .string (strOfNums p.2)]] w fun e w' => e = .returned (.string (strOfNums (layL s p))) ∧ Below w.heap.size w w' := by
  obtain ⟨at_, b⟩ := p
  simp only [] at hfit ⊢
  have hfin : Hid (strOfNums (layL s (at_, b)) = strOfNums (s.take at_) ++ strOfNums b ++ strOfNums (s.drop (at_ + b.length))) := by
    unfold Hid layL
    rw [strOfNums_append, strOfNums_append]
  have z1 : (strOfNums (s.take at_)).size ≤ 1000000 := by rw [size_of, List.length_take]; omega
  have z2 : (strOfNums b).size ≤ 1000000 := by rw [size_of]; omega
  have z3 : (strOfNums (s.drop (at_ + b.length))).size ≤ 1000000 := by rw [size_of, List.length_drop]; omega
  have hbz : (strOfNums b).size = b.length := size_of b
  obtain ⟨R, hR⟩ : ∃ R : Int, (at_ : Int) + ((strOfNums b).size : Int) = R := ⟨_, rfl⟩
  have hwR : IntKind.i64.wrap ((at_ : Int) + ((strOfNums b).size : Int)) = R := by rw [IntKind.wrap_i64]; omega
  have s1 : ∀ W : World, (Instr.slice 9 (.string (strOfNums s)) none (some (.int .i64 (at_ : Int))) none).run Try.prog W = .ok (.string (strOfNums (s.take at_))) W := fun W => by
    rw [run_slice_string_to_if W 9 _ .i64 (at_ : Int) Try.underlying9, if_pos ⟨by omega, by rw [size_of]; omega⟩, ext_to s hs, Int.toNat_natCast, Nat.sub_zero, List.drop_zero]
  have s3 : ∀ W : World, (Instr.slice 9 (.string (strOfNums s)) (some (.int .i64 R)) none none).run Try.prog W = .ok (.string (strOfNums (s.drop (at_ + b.length)))) W := fun W => by
    rw [run_slice_string_from_if W 9 _ .i64 R Try.underlying9, if_pos ⟨by omega, by rw [size_of]; omega⟩, ext_to s hs, show R.toNat = at_ + b.length by omega, List.take_of_length_le (by rw [List.length_drop, size_of]; exact Nat.le_refl _)]
  obtain ⟨A1, hA1⟩ : ∃ A1, strOfNums (s.take at_) = A1 := ⟨_, rfl⟩
  obtain ⟨A2, hA2⟩ : ∃ A2, strOfNums b = A2 := ⟨_, rfl⟩
  obtain ⟨A3, hA3⟩ : ∃ A3, strOfNums (s.drop (at_ + b.length)) = A3 := ⟨_, rfl⟩
  rw [hA1] at s1 hfin z1
  rw [hA2] at hfin z2 hwR ⊢
  rw [hA3] at s3 hfin z3
  obtain ⟨X, hX⟩ : ∃ X, strOfNums s = X := ⟨_, rfl⟩
  rw [hX] at s1 s3 ⊢
  have n1 : ¬ (9223372036854775807 < A1.size + A2.size) := by omega
  have n2 : ¬ (9223372036854775807 < A1.size + A2.size + A3.size) := by omega
  clear hX hA1 hA2 hA3 hR hbz hs hl hfit z1 z2 z3
  have M := Var2.fresh w (.int .i64 (at_ : Int)) (.string A2) 60 _ rfl
  have HB : Hid (Below w.heap.size w (w.alloc (.cells #[.int .i64 (at_ : Int), .string A2] 60))) := (Below.refl _ _).alloc (Nat.le_refl _) _
  obtain ⟨c0, c1, _, _, _⟩ := M
  go_enter Try.func31, Try.ntmps31
  go_wp2
  generalize w.alloc (.cells #[.int .i64 (at_ : Int), .string A2] 60) = w1 at c0 c1 HB ⊢
  go_quiet (fail)
  have HB2 := Lib.hid (below_drewN HB.out nq)
  clear c0 c1
  generalize w1.drewN nq = w2 at HB2 ⊢
  go_wp2
  go_ret
  rw [hfin.out]
  exact ⟨rfl, HB2.out⟩

set_option maxRecDepth 100000 in
set_option maxHeartbeats 4000000 in
theorem bdeed_any (base : Nat) (O : Foot) (r : Nat) (D : Dsk) (w : World) (h : RefIs w base O r D) (hd : D.deeds ≤ 1000000) :
    Calls Try.prog 29 #[.pointer (some ⟨r, 0, none⟩)] w fun e w' => e = .returned (.bool D.deed.1) ∧ RefIs w' base O r D.deed.2 ∧ OnlyO base O w w' := by
  have HR := Lib.hid h
  obtain ⟨hok, hown, hmem, v, hD, hrow, hv⟩ := h
  have HV := Lib.hid hv
  have HRow := Lib.hid hrow
  have HDk := Lib.hid hD
  have hbr := (hown r hmem).1
  have f0 := hok.f0
  have f1 := hok.f1
  have HOK := Lib.hid hok.deed.1
  obtain ⟨c0, c1, c2, c3, c4, c5, c6, q, sl⟩ := hD
  have q4 := q 4
  have q5 := q 5
  have q6 := q 6
  obtain ⟨fz, hfz⟩ : ∃ k, D.fuse = k := ⟨_, rfl⟩
  obtain ⟨dd, hdd⟩ : ∃ k, D.deeds = k := ⟨_, rfl⟩
  rw [hfz] at c4 f0 f1
  rw [hdd] at c6 hd
  have hwd : IntKind.i64.wrap ((dd : Int) + 1) = (dd : Int) + 1 := by rw [IntKind.wrap_i64]; omega
  have HFZ := Lib.hid hfz
  have HDD := Lib.hid hdd
  clear hv hrow c0 c1 c2 c3 q hfz hdd hown hok
  by_cases h0 : fz = 0
  · have hfin : Hid (D.deed = (false, { D with dark := true })) := by unfold Hid Dsk.deed; rw [if_pos (by rw [HFZ.out]; exact h0)]
    subst h0
    go_enter Try.func29, Try.ntmps29
    go_wp2
    go_ret
    have hu := HR.out.upd (D' := { D with dark := true }) (HDk.out.set.2.2.2.1 true) HRow.out HV.out (by have := HOK.out; rw [hfin.out] at this; exact this) (set_other w r 5 _) (by simp)
    rw [hfin.out]
    exact ⟨rfl, hu, (OnlyO.refl _ _ _).set hmem hbr _ _⟩
  · have h0b : (fz == 0) = false := by simpa using h0
    by_cases hp : 0 < fz
    · have hw1 : IntKind.i64.wrap (fz - 1) = fz - 1 := by rw [IntKind.wrap_i64]; omega
      have hfin : Hid (D.deed = (true, { D with fuse := fz - 1, deeds := dd + 1 })) := by unfold Hid Dsk.deed; rw [if_neg (by rw [HFZ.out]; exact h0), HFZ.out, if_pos hp, HDD.out]
      have e6 : (w.setCell ⟨r, 4, none⟩ (.int .i64 (fz - 1))).cell? ⟨r, 6, none⟩ = some (.int .i64 (dd : Int)) := by rw [← HDD.out]; exact (HDk.out.set.2.2.1 (fz - 1)).c6
      go_enter Try.func29, Try.ntmps29
      go_wp2
      go_ret
      have hu := HR.out.upd (D' := { D with fuse := fz - 1, deeds := dd + 1 }) (((HDk.out.set.2.2.1 (fz - 1)).set.2.2.2.2 ((dd : Int) + 1))) HRow.out HV.out (by have := HOK.out; rw [hfin.out] at this; exact this) (fun j hj hne => (set_other _ r 6 _ j (by simpa using hj) hne).trans (set_other w r 4 _ j hj hne)) (by simp)
      rw [hfin.out]
      exact ⟨rfl, hu, ((OnlyO.refl _ _ _).set hmem hbr _ _).set hmem hbr _ _⟩
    · have hfin : Hid (D.deed = (true, { D with fuse := fz, deeds := dd + 1 })) := by unfold Hid Dsk.deed; rw [if_neg (by rw [HFZ.out]; exact h0), HFZ.out, if_neg hp, HDD.out]
      go_enter Try.func29, Try.ntmps29
      go_wp2
      go_ret
      have hd2 := HDk.out.set.2.2.2.2 ((dd : Int) + 1)
      rw [HFZ.out] at hd2
      have hu := HR.out.upd (D' := { D with fuse := fz, deeds := dd + 1 }) hd2 HRow.out HV.out (by have := HOK.out; rw [hfin.out] at this; exact this) (set_other w r 6 _) (by simp)
      rw [hfin.out]
      exact ⟨rfl, hu, (OnlyO.refl _ _ _).set hmem hbr _ _⟩

end Go.Proofs.Ytnndpainnoebgaa
