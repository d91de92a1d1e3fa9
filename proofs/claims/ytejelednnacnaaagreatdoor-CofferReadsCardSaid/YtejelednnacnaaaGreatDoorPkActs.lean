/-
  The statements of layer 9, walked over the contracts of package block's calls: awake, BlockNil.
-/
import Derived.Test.YtejelednnacnaaaGreatDoorPkBlock
import Derived.Test.YtejelednnacnaaaGreatDoorPkBase
import Derived.Deep.Slices
import Derived.Lib.SmallJoins
import Derived.Deep.DeepCutAuto
import Derived.StillTailTactics
namespace Go.Proofs.YtejelednnacnaaaGreatDoor
open Go.RowKit

/-- A disk behind a call. -/
theorem DskTo.to {base : Nat} {O : Foot} {r : Nat} {D : Dsk} {w w' : World} (h : DskTo base O r D w w') : ∃ O', DskIs w' base O' r D ∧ OnlyO base O w w' ∧ Grown O O' w.heap.size := h
theorem bnew_6 (n size : Nat) (w : World) (n0 : 1 ≤ n) (n1 : n ≤ 400) (s0 : 32 ≤ size) (s1 : size ≤ 512) :
    Calls Tryz.prog 18 #[.int .i64 (n : Int), .int .i64 (size : Int)] w fun e w' => ∃ r O, e = .returned (.tuple #[.pointer (some ⟨r, 0, none⟩), .int .i64 0]) ∧ DskIs w' w.heap.size O r (Dsk.new n size) ∧ Below w.heap.size w w' := by
  refine (bnew_any n size w (by omega) (by omega) (by omega) (by omega)).mono ?_
  rintro e w' ⟨hb, ⟨hn, _⟩ | ⟨_, _, _, _, r, O, rfl, hd⟩⟩
  · exact (hn ⟨by omega, by omega, by omega, by omega⟩).elim
  · exact ⟨r, O, rfl, hd, hb⟩

theorem const3 (a b c : Int) (W : World) : (convert 22 22 (.slice (some ⟨W.heap.size, 0, none⟩) 3 3)).run Tryz.prog (W.alloc (.cells #[.int .u8 a, .int .u8 b, .int .u8 c] 5)) = .ok (.slice (some ⟨W.heap.size, 0, none⟩) 3 3) (W.alloc (.cells #[.int .u8 a, .int .u8 b, .int .u8 c] 5 (3, 4))) :=
  Go.Joins.run_convert_bytes_const_at (P := Tryz.prog) W 22 5 #[.int .u8 a, .int .u8 b, .int .u8 c] 3 3 W.heap.size rfl Tryz.underlying22 Tryz.underlying5
theorem arg3 (a b c : Int) (W : World) : ArgB (W.alloc (.cells #[.int .u8 a, .int .u8 b, .int .u8 c] 5 (3, 4))) (.slice (some ⟨W.heap.size, 0, none⟩) 3 3) [a, b, c] := by
  refine Or.inr ⟨⟨W.heap.size, 0, none⟩, 3, rfl, Nat.le_refl _, fun i hi => ?_⟩
  have e : (⟨W.heap.size, 0, none⟩ : Addr).add i = ⟨W.heap.size, i, none⟩ := by unfold Addr.add; split <;> simp_all
  rw [e, World.cell?_alloc_mark]
  match i, hi with
  | 0, _ => rfl
  | 1, _ => rfl
  | 2, _ => rfl
theorem bel3 (a b c : Int) (W : World) : Below W.heap.size W (W.alloc (.cells #[.int .u8 a, .int .u8 b, .int .u8 c] 5 (3, 4))) := (Below.refl _ _).alloc (Nat.le_refl _) _
theorem arg32 {w : World} {v : Value} {l : List Int} (h : ArgB w v ([120, 121, 99] ++ l)) : ∃ b off cap, v = .slice (some ⟨b, off, none⟩) (3 + l.length) cap ∧ ∀ i, i < 3 → w.cell? ⟨b, off + i, none⟩ = some (.int .u8 ([120, 121, 99].getD i 0)) := by
  rcases h with ⟨_, h⟩ | ⟨x, cap, rfl, hc, hcell⟩
  · simp at h
  · obtain ⟨b, off, rfl, hk⟩ := arg_addr hcell (by simp)
    refine ⟨b, off, cap, by simp; omega, fun i hi => ?_⟩
    rw [hk i (by simp; omega)]
    match i, hi with
    | 0, _ => rfl
    | 1, _ => rfl
    | 2, _ => rfl
/-- The disk of the chapter's example, call by call. -/
def dA : Dsk := ((Dsk.new 2 32).write 1 [97, 98, 99]).2
def dB : Dsk := dA.sync.2
def dC : Dsk := (dB.write 1 [120, 121, 122]).2
def dE : Dsk := dC.crash 0 2
theorem dE_read : dE.read 1 = ([120, 121, 99] ++ List.replicate 29 0, 0) := by decide +kernel
theorem d_deeds : (Dsk.new 2 32).deeds ≤ 1000000 ∧ dA.deeds ≤ 1000000 ∧ dB.deeds ≤ 1000000 ∧ dC.deeds ≤ 1000000 ∧ dE.deeds ≤ 1000000 := by decide +kernel
end Go.Proofs.YtejelednnacnaaaGreatDoor

/-
  Calls that are handed in (stage 9): what they are.
-/
namespace Go.Proofs.YtejelednnacnaaaGreatDoor
open Go.ChangeShapes Go.WideShapes Go.ChangeAt Go.RowKit Go.Joins Go.Deep

/-- Bytes in a cell. -/
theorem open_bytes_at {H : Type} {enc : TypeId × Value → H} {W : World} {base : Nat} {held : Bool} {fuel : Nat} {v : Value} {y : DataW H × List MemPlace}
    (hf : DataW.trod enc Tryz.prog W base (fun _ => true) held fuel 22 [v] = some y) : ∃ l, ArgB W v l ∧ (∀ z ∈ l, 0 ≤ z ∧ z ≤ 255) ∧ (l.length : Int) ≤ 9223372036854775807 := by
  rcases open_ints Tryz.underlying22 Tryz.underlying5 (by kernel_rfl) hf with ⟨hcs, _⟩ | ⟨x, l, c, zs, hcs, _, hl, hm, hz, _, hcell, hwz⟩
  · simp at hcs
    subst hcs
    exact ⟨[], Or.inl ⟨rfl, rfl⟩, (fun z hz => by cases hz), by decide⟩
  · simp at hcs
    subst hcs
    have hz' : zs.length = c := by simpa using hz
    have hlen : (zs.take l).length = l := by rw [List.length_take]; omega
    refine ⟨zs.take l, Or.inr ⟨x, c, by rw [hlen], by omega, fun i hi => ?_⟩, fun z hzm => ?_, by rw [hlen]; unfold maxLen at hm; omega⟩
    · rw [hlen] at hi
      rw [hcell i (by omega), List.getD_eq_getElem?_getD, List.getD_eq_getElem?_getD, List.getElem?_take_of_lt hi]
    · have := hwz z (List.mem_of_mem_take hzm)
      simpa [Lit.wf, IntKind.min, IntKind.max, IntKind.signed, IntKind.bits] using this

/-- A call. -/
structure ActV where
  kind : Int := 0
  i : Int := 0
  k : Int := 0
  b : List Int := []
/-- What is right with one. -/
structure ActV.Ok (x : ActV) : Prop where
  q0 : -9223372036854775808 ≤ x.kind ∧ x.kind ≤ 9223372036854775807
  i0 : -9223372036854775808 ≤ x.i ∧ x.i ≤ 9223372036854775807
  k0 : -9223372036854775808 ≤ x.k ∧ x.k ≤ 9223372036854775807
  b0 : ∀ z ∈ x.b, 0 ≤ z ∧ z ≤ 255
  b1 : (x.b.length : Int) ≤ 9223372036854775807
/-- A slice of them. -/
def ActsIs (W : World) (v : Value) (l : List ActV) : Prop :=
  ∃ a cap, v = .slice a l.length cap ∧ l.length ≤ cap ∧ ∀ i, i < l.length → ∃ b off bv, a = some ⟨b, off, none⟩ ∧ W.cell? ⟨b, off + i * 4, none⟩ = some (.int .i64 (l.getD i {}).kind) ∧ W.cell? ⟨b, off + i * 4 + 1, none⟩ = some (.int .i64 (l.getD i {}).i) ∧
    W.cell? ⟨b, off + i * 4 + 2, none⟩ = some (.int .i64 (l.getD i {}).k) ∧ W.cell? ⟨b, off + i * 4 + 3, none⟩ = some bv ∧ ArgB W bv (l.getD i {}).b
theorem ActsIs.below {w w' : World} {v : Value} {l : List ActV} (h : ActsIs w v l) (hb : Below w.heap.size w w') : ActsIs w' v l := by
  obtain ⟨a, cap, rfl, hc, hcell⟩ := h
  refine ⟨a, cap, rfl, hc, fun i hi => ?_⟩
  obtain ⟨b, off, bv, rfl, h0, h1, h2, h3, h4⟩ := hcell i hi
  have hlt := World.block_lt_of_cell? _ _ h0
  exact ⟨b, off, bv, rfl, (hb.cell (p := ⟨b, off + i * 4, none⟩) hlt).trans h0, (hb.cell (p := ⟨b, off + i * 4 + 1, none⟩) hlt).trans h1, (hb.cell (p := ⟨b, off + i * 4 + 2, none⟩) hlt).trans h2, (hb.cell (p := ⟨b, off + i * 4 + 3, none⟩) hlt).trans h3, h4.below hb⟩
theorem ActsIs.size {w : World} {v : Value} {l : List ActV} (h : ActsIs w v l) : ∃ a cap, v = .slice a l.length cap := by
  obtain ⟨a, cap, rfl, _⟩ := h
  exact ⟨a, cap, rfl⟩
/-- With an address of their own. -/
theorem ActsIs.at {w : World} {v : Value} {l : List ActV} (h : ActsIs w v l) (hl : 0 < l.length) : ∃ b off cap, v = .slice (some ⟨b, off, none⟩) l.length cap ∧ b < w.heap.size ∧ ∀ i, i < l.length → ∃ bv, w.cell? ⟨b, off + i * 4, none⟩ = some (.int .i64 (l.getD i {}).kind) ∧ w.cell? ⟨b, off + i * 4 + 1, none⟩ = some (.int .i64 (l.getD i {}).i) ∧
    w.cell? ⟨b, off + i * 4 + 2, none⟩ = some (.int .i64 (l.getD i {}).k) ∧ w.cell? ⟨b, off + i * 4 + 3, none⟩ = some bv ∧ ArgB w bv (l.getD i {}).b := by
  obtain ⟨a, cap, rfl, hc, hcell⟩ := h
  obtain ⟨b, off, _, rfl, h0, _⟩ := hcell 0 hl
  refine ⟨b, off, cap, rfl, World.block_lt_of_cell? _ _ h0, fun i hi => ?_⟩
  obtain ⟨b', off', bv, he, hx⟩ := hcell i hi
  simp only [Option.some.injEq, Addr.mk.injEq, and_true] at he
  obtain ⟨rfl, rfl⟩ := he
  exact ⟨bv, hx⟩
theorem add_none (a : Addr) : a.add 0 = a := by cases a; simp [Addr.add]
theorem add_plain4 (b off n : Nat) : (⟨b, off, none⟩ : Addr).add n = ⟨b, off + n, none⟩ := by unfold Addr.add; split <;> simp_all
end Go.Proofs.YtejelednnacnaaaGreatDoor

/-
  The statements of layer 9, walked over the contracts of package block's calls: BlockFuses.
-/
namespace Go.Proofs.YtejelednnacnaaaGreatDoor
open Go.RowKit

/-- A disk with a fuse of n, behind some deeds. -/
structure FI (n : Int) (D : Dsk) : Prop where
  up : 0 ≤ n → D.fuse = n - D.deeds ∧ 0 ≤ D.fuse
  low : n < 0 → D.fuse = -1
  dk : D.dark = true → D.fuse = 0
/-- What the law looks at. -/
structure FS (n : Int) (D D' : Dsk) (c : Int) : Prop where
  fi : FI n D'
  dk : D.dark = true → c = 12
  zero : c = 0 → D'.deeds = D.deeds + 1 ∧ D.dark = false ∧ D'.dark = false
  non : c ≠ 0 → D'.deeds = D.deeds
  le : 0 ≤ n → (D'.deeds : Int) ≤ n
  at_ : D'.dark = true → 0 ≤ n ∧ (D'.deeds : Int) = n
theorem FI.step {n : Int} {D D' : Dsk} {c : Int} (hF : FI n D) (h : D.Ok) (hs : (c, D') = D.sync ∨ ∃ i b, (c, D') = D.write i b) : FS n D D' c := by
  obtain ⟨s1, s2, s3, s4, _, _⟩ := h.step hs
  obtain ⟨u, l, k⟩ := hF
  have hfi : FI n D' := by
    by_cases hc : c = 0
    · obtain ⟨a1, a2, a3, a4, a5⟩ := s3 hc
      refine ⟨fun hn => ?_, fun hn => ?_, fun hd => ?_⟩
      · obtain ⟨b1, b2⟩ := u hn
        have : 0 < D.fuse := by omega
        rw [a2, if_pos this, a1]; omega
      · rw [a2, l hn]; rfl
      · rw [a3, a5] at hd; cases hd
    · obtain ⟨a1, a2, a3⟩ := s4 hc
      refine ⟨fun hn => ?_, fun hn => ?_, fun hd => ?_⟩
      · obtain ⟨b1, b2⟩ := u hn
        rw [a2, a1]; exact ⟨b1, b2⟩
      · rw [a2]; exact l hn
      · rw [a2]
        rcases a3 hd with hd | hd
        · exact k hd
        · exact hd
  refine ⟨hfi, fun hd => (s1 hd).1, fun hc => ⟨(s3 hc).1, (s3 hc).2.2.2.2, by rw [(s3 hc).2.2.1]; exact (s3 hc).2.2.2.2⟩, fun hc => (s4 hc).1, fun hn => ?_, fun hd => ?_⟩
  · have := hfi.up hn; omega
  · have h0 := hfi.dk hd
    by_cases hn : 0 ≤ n
    · have := hfi.up hn; exact ⟨hn, by omega⟩
    · have := hfi.low (by omega); omega
theorem fs_le {D D' : Dsk} {c : Int} {dd : Nat} (h : (D.dark = true → c = 12 ∧ D' = D) ∧ (c = 0 ∨ c = 2 ∨ c = 12) ∧ (c = 0 → D'.deeds = D.deeds + 1 ∧ D'.fuse = (if 0 < D.fuse then D.fuse - 1 else D.fuse) ∧ D'.dark = D.dark ∧ D.fuse ≠ 0 ∧ D.dark = false) ∧
    (c ≠ 0 → D'.deeds = D.deeds ∧ D'.fuse = D.fuse ∧ (D'.dark = true → D.dark = true ∨ D.fuse = 0)) ∧ D'.n = D.n ∧ D'.size = D.size) (hd : D.deeds = dd) : D'.deeds ≤ dd + 1 := by
  obtain ⟨_, _, h3, h4, _⟩ := h
  by_cases hc : c = 0
  · have := (h3 hc).1; omega
  · have := (h4 hc).1; omega
theorem FI.new (n : Int) {N S : Nat} : FI n ((Dsk.new N S).light n) :=
  ⟨fun h => by show (if n < 0 then -1 else n) = n - ((0 : Nat) : Int) ∧ 0 ≤ (if n < 0 then -1 else n); rw [if_neg (by omega)]; omega, fun h => by show (if n < 0 then -1 else n) = -1; rw [if_pos h], fun h => by cases h⟩

end Go.Proofs.YtejelednnacnaaaGreatDoor

/-
  The statements of layer 9, walked over the contracts of package block's calls: all blocks of a disk, as one text.
-/
namespace Go.Proofs.YtejelednnacnaaaGreatDoor
open Go.RowKit

theorem str_join (a b : List Int) : strOfNums (a ++ b) = strOfNums a ++ strOfNums b := (strOfNums_append a b).symm
theorem str_len (l : List Int) : (strOfNums l).size = l.length := by rw [← nums_length]; simp [nums, strOfNums]
theorem take_more (l : List Int) (i s : Nat) : l.take ((i + 1) * s) = l.take (i * s) ++ (l.drop (i * s)).take s := by
  rw [Nat.succ_mul, List.take_add]

set_option maxRecDepth 100000 in
set_option maxHeartbeats 4000000 in
theorem blkall_any (base : Nat) (O : Foot) (r : Nat) (E : Dsk) (w : World) (h : DskIs w base O r E) (hd : E.dark = false) (hde : E.deeds ≤ 1000000) :
    Calls Tryz.prog 8 #[.pointer (some ⟨r, 0, none⟩)] w fun e w' => e = .returned (.string (strOfNums E.seen)) ∧ Below w.heap.size w w' := by
  have HO := Lib.hid h
  have HK := Lib.hid h.ok
  have hn := h.ok.n1
  obtain ⟨sl, sb⟩ := h.ok.seen
  have hmost := h.ok.most
  have hs0 := h.ok.s0
  obtain ⟨N, hN⟩ : ∃ N, E.n = N := ⟨_, rfl⟩
  obtain ⟨S, hS⟩ : ∃ S, E.size = S := ⟨_, rfl⟩
  obtain ⟨L, hL⟩ : ∃ L, E.seen = L := ⟨_, rfl⟩
  have HR : Hid (∀ i : Nat, i < N → E.read (i : Int) = ((L.drop (i * S)).take S, 0)) := fun i hi => by
    unfold Dsk.read
    rw [if_neg (by rw [hd]; simp), if_neg (by omega), hL, hS, Int.toNat_natCast]
  have HB : Hid (∀ w' O', DskIs w' base O' r E → Calls Tryz.prog 28 #[.pointer (some ⟨r, 0, none⟩)] w' fun e w2 => e = .returned (.int .i64 (N : Int)) ∧ Below w'.heap.size w' w2) := fun w' O' h => by rw [← hN]; exact bblocks_any _ _ _ _ _ h
  have HRD := Lib.hid (fun (i : Nat) (hi : i < N) w' O' (h : DskIs w' base O' r E) => bread_any base O' r E (i : Int) w' h hde (by omega) (by omega))
  rw [hL, hN, hS] at sl
  rw [hL] at sb
  rw [hN] at hn
  rw [hN, hS] at hmost
  rw [hL]
  have HSL := Lib.hid sl
  have HSB := Lib.hid sb
  have HM := Lib.hid hmost
  clear h hd hN hS hL sl sb hmost
  go_enter Tryz.func8, Tryz.ntmps8
  go_wp2
  go_loopw [3, 4] (fun v3 v4 wr => ∃ (i : Nat), v4 = .int .i64 (i : Int) ∧ i ≤ N ∧ v3 = .string (strOfNums (L.take (i * S))) ∧ DskIs wr base O r E ∧ Below w.heap.size w wr) (fun _ v4 _ => N - (intOf v4).toNat)
  case atStart => exact ⟨0, rfl, Nat.zero_le _, by rw [Nat.zero_mul]; rfl, HO.out, Below.refl _ _⟩
  case round =>
    obtain ⟨i, rfl, hi, rfl, hD, hG⟩ := hrel
    have HD := Lib.hid hD
    have HG := Lib.hid hG
    clear hD hG
    obtain ⟨T, hT⟩ : ∃ T, L.take (i * S) = T := ⟨_, rfl⟩
    rw [hT]
    by_cases hlt : i < N
    · have hli : (i : Int) < (N : Int) := by omega
      have hbyte : Hid (∀ z ∈ (L.drop (i * S)).take S, 0 ≤ z ∧ z ≤ 255) := fun z hz => HSB.out z (List.mem_of_mem_drop (List.mem_of_mem_take hz))
      have hnx : Hid (L.take ((i + 1) * S) = T ++ (L.drop (i * S)).take S) := by unfold Hid; rw [take_more, hT]
      have hsz : T.length + ((L.drop (i * S)).take S).length ≤ 204800 := by
        have := congrArg List.length hnx.out
        rw [List.length_append] at this
        have h2 := List.length_take_le ((i + 1) * S) L
        have h3 : (L.take ((i + 1) * S)).length ≤ L.length := by rw [List.length_take]; omega
        have := HSL.out
        have := HM.out
        omega
      have HRi := Lib.hid (fun w' O' h => HRD.out i hlt w' O' h)
      have hri := HR.out i hlt
      obtain ⟨X, hX⟩ : ∃ X, (L.drop (i * S)).take S = X := ⟨_, rfl⟩
      rw [hX] at hbyte hnx hsz hri
      have HX := Lib.hid hri
      have hts : (strOfNums T).size + (strOfNums X).size ≤ 204800 := by rw [str_len, str_len]; exact hsz
      have hts2 : ¬ (9223372036854775807 < (strOfNums T).size + (strOfNums X).size) := by omega
      clear hri hX hT
      go_wp2_with (first
        | (go_at_call 28; (with_reducible refine (HB.out _ _ HD.out).mono ?_); rintro e wz ⟨rfl, g⟩; have HD := Lib.hid (HD.out.after g); have HG2 := Lib.hid (below_step HG.out g); clear g)
        | (go_at_call 29; (with_reducible refine (HRi.out _ _ HD.out).mono ?_); rintro e wy ⟨v, rfl, a, g⟩; rw [HX.out] at a; have HD3 := Lib.hid (HD.out.after g); have HG3 := Lib.hid (below_step HG2.out g); have hcv := conv_arg a hbyte.out; obtain ⟨xa, xc, rfl⟩ := a.size; rw [HX.out]; clear g a))
      go_roundw
      case rel => exact ⟨i + 1, by go_num, hlt, by rw [hnx.out, str_join], HD3.out, HG3.out⟩
      case measure => simp [intOf]; omega
    · obtain rfl : i = N := by omega
      have hfin : Hid (T = L) := by unfold Hid; rw [← hT, List.take_of_length_le (by rw [HSL.out]; exact Nat.le_refl _)]
      have hli : ¬ (i : Int) < (i : Int) := by omega
      go_wp2_with (go_at_call 28; (with_reducible refine (HB.out _ _ HD.out).mono ?_); rintro e wz ⟨rfl, g⟩; have HD := Lib.hid (HD.out.after g); have HG2 := Lib.hid (below_step HG.out g); clear g)
      go_ret
      rw [hfin.out]
      exact ⟨rfl, HG2.out⟩

end Go.Proofs.YtejelednnacnaaaGreatDoor
