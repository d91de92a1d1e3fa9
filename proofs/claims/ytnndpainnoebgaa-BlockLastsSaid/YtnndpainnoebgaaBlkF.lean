/-
  The statements of layer 9, walked over the contracts of package block's calls: BlockFuses.
-/
import Derived.Test.YtnndpainnoebgaaBlkN
import Derived.Test.YtnndpainnoebgaaActs
import Derived.Deep.DeepCutAuto
import Derived.StillTailTactics
namespace Go.Proofs.Ytnndpainnoebgaa
open Go.RowKit

/-- A disk with a fuse of n, behind some deeds. -/
structure FI (n : Int) (D : Dsk) : Prop where
  up : 0 ≤ n → D.fuse = n - D.deeds ∧ 0 ≤ D.fuse
  low : n < 0 → D.fuse = -1
  dk : D.dark = true → D.fuse = 0
/-- What the law looks at. -/
structure FS (n : Int) (D D' : Dsk) (c : Int) : Prop where
  fi : FI n D'
  dk : D.dark = true → c = 12
  zero : c = 0 → D'.deeds = D.deeds + 1 ∧ D.dark = false ∧ D'.dark = false
  non : c ≠ 0 → D'.deeds = D.deeds
  le : 0 ≤ n → (D'.deeds : Int) ≤ n
  at_ : D'.dark = true → 0 ≤ n ∧ (D'.deeds : Int) = n
theorem FI.step {n : Int} {D D' : Dsk} {c : Int} (hF : FI n D) (h : D.Ok) (hs : (c, D') = D.sync ∨ ∃ i b, (c, D') = D.write i b) : FS n D D' c := by
  obtain ⟨s1, s2, s3, s4, _, _⟩ := h.step hs
  obtain ⟨u, l, k⟩ := hF
  have hfi : FI n D' := by
    by_cases hc : c = 0
    · obtain ⟨a1, a2, a3, a4, a5⟩ := s3 hc
      refine ⟨fun hn => ?_, fun hn => ?_, fun hd => ?_⟩
      · obtain ⟨b1, b2⟩ := u hn
        have : 0 < D.fuse := by omega
        rw [a2, if_pos this, a1]; omega
      · rw [a2, l hn]; rfl
      · rw [a3, a5] at hd; cases hd
    · obtain ⟨a1, a2, a3⟩ := s4 hc
      refine ⟨fun hn => ?_, fun hn => ?_, fun hd => ?_⟩
      · obtain ⟨b1, b2⟩ := u hn
        rw [a2, a1]; exact ⟨b1, b2⟩
      · rw [a2]; exact l hn
      · rw [a2]
        rcases a3 hd with hd | hd
        · exact k hd
        · exact hd
  refine ⟨hfi, fun hd => (s1 hd).1, fun hc => ⟨(s3 hc).1, (s3 hc).2.2.2.2, by rw [(s3 hc).2.2.1]; exact (s3 hc).2.2.2.2⟩, fun hc => (s4 hc).1, fun hn => ?_, fun hd => ?_⟩
  · have := hfi.up hn; omega
  · have h0 := hfi.dk hd
    by_cases hn : 0 ≤ n
    · have := hfi.up hn; exact ⟨hn, by omega⟩
    · have := hfi.low (by omega); omega
theorem fs_le {D D' : Dsk} {c : Int} {dd : Nat} (h : (D.dark = true → c = 12 ∧ D' = D) ∧ (c = 0 ∨ c = 2 ∨ c = 12) ∧ (c = 0 → D'.deeds = D.deeds + 1 ∧ D'.fuse = (if 0 < D.fuse then D.fuse - 1 else D.fuse) ∧ D'.dark = D.dark ∧ D.fuse ≠ 0 ∧ D.dark = false) ∧
    (c ≠ 0 → D'.deeds = D.deeds ∧ D'.fuse = D.fuse ∧ (D'.dark = true → D.dark = true ∨ D.fuse = 0)) ∧ D'.n = D.n ∧ D'.size = D.size) (hd : D.deeds = dd) : D'.deeds ≤ dd + 1 := by
  obtain ⟨_, _, h3, h4, _⟩ := h
  by_cases hc : c = 0
  · have := (h3 hc).1; omega
  · have := (h4 hc).1; omega
theorem FI.new (n : Int) {N S : Nat} : FI n ((Dsk.new N S).light n) :=
  ⟨fun h => by show (if n < 0 then -1 else n) = n - ((0 : Nat) : Int) ∧ 0 ≤ (if n < 0 then -1 else n); rw [if_neg (by omega)]; omega, fun h => by show (if n < 0 then -1 else n) = -1; rw [if_pos h], fun h => by cases h⟩

set_option maxRecDepth 100000 in
set_option maxHeartbeats 4000000 in
theorem blkfuses_walk (n : Int) (v : Value) (l : List ActV) (w : World) (hn : -9223372036854775808 ≤ n ∧ n ≤ 9223372036854775807) (hv : ActsIs w v l) (hl : ∀ x ∈ l, x.Ok) :
    Calls Try.prog 5 #[.int .i64 n, v] w fun e w' => e = .returned (.bool true) ∧ Below w.heap.size w w' := by
  obtain ⟨n0, n1⟩ := hn
  have HV := Lib.hid hv
  have HL := Lib.hid hl
  obtain ⟨va, vc, rfl⟩ := hv.size
  have HN : Hid (∀ w, Calls Try.prog 8 #[.int .i64 6, .int .i64 32] w fun e w' => ∃ r O, e = .returned (.tuple #[.pointer (some ⟨r, 0, none⟩), .int .i64 0]) ∧ DskIs w' w.heap.size O r (Dsk.new 6 32) ∧ Below w.heap.size w w') := fun w => bnew_6 6 32 w (by decide) (by decide) (by decide) (by decide)
  have hlen : (l.length : Int) ≤ 9223372036854775807 → True := fun _ => trivial
  clear hv hl hlen
  go_enter Try.func5, Try.ntmps5
  go_wp2_with (first
    | (go_at_call 7; (with_reducible refine (blk_awake _).mono ?_); rintro e w1 ⟨rfl, g⟩; have HB1 := Lib.hid g; clear g)
    | (go_at_call 8; (with_reducible refine (HN.out _).mono ?_); rintro e w2 ⟨r, O2, rfl, d, g⟩; have HD2 := Lib.hid (d.base HB1.out.size); have HB2 := Lib.hid (below_step HB1.out g); clear d g)
    | (go_at_call 14; (with_reducible refine (bfuse_any w.heap.size O2 r _ n _ HD2.out n0 n1).mono ?_); rintro e w3 ⟨rfl, O3, d, g, k⟩; have HD3 := Lib.hid d; have HB3 := Lib.hid (HB2.out.trans g.bel); clear d g k))
  go_loopw [7] (fun v7 wr => ∃ (i : Nat) (O : Foot) (E : Dsk), v7 = .int .i64 (i : Int) ∧ i ≤ l.length ∧ i ≤ 100 ∧ DskIs wr w.heap.size O r E ∧ FI n E ∧ E.deeds ≤ i ∧ Below w.heap.size w wr) (fun v7 _ => 200 - (intOf v7).toNat)
  case atStart => exact ⟨0, O3, _, rfl, Nat.zero_le _, Nat.zero_le _, HD3.out, FI.new n, Nat.le_refl _, HB3.out⟩
  case round =>
    obtain ⟨i, O, E, rfl, hil, hi100, hD, hF, hde, hB⟩ := hrel
    have HD := Lib.hid hD
    have HF := Lib.hid hF
    have HB := Lib.hid hB
    have hok := Lib.hid hD.ok
    clear hD hF hB
    by_cases hlt : i < l.length ∧ i < 100
    case pos =>
      obtain ⟨h1, h2⟩ := hlt
      have h1i : (i : Int) < (l.length : Int) := by omega
      have h2i : (i : Int) < 100 := by omega
      have hx := HL.out (l.getD i {}) (by rw [List.getD_eq_getElem?_getD, List.getElem?_eq_getElem h1]; exact List.getElem_mem _)
      have hcell : ∃ b off bv, va = some ⟨b, off, none⟩ ∧ b < w.heap.size ∧ w.cell? ⟨b, off + i * 4, none⟩ = some (.int .i64 (l.getD i {}).kind) ∧ w.cell? ⟨b, off + i * 4 + 1, none⟩ = some (.int .i64 (l.getD i {}).i) ∧ w.cell? ⟨b, off + i * 4 + 3, none⟩ = some bv ∧ ArgB w bv (l.getD i {}).b := by
        obtain ⟨b, off, cap, he, hb, hc⟩ := HV.out.at (by omega)
        simp only [Value.slice.injEq] at he
        obtain ⟨rfl, _, _⟩ := he
        obtain ⟨bv, c0, c1, _, c3, ha⟩ := hc i h1
        exact ⟨b, off, bv, rfl, hb, c0, c1, c3, ha⟩
      obtain ⟨vb, off, bv, rfl, hvb, c0, c1, c3, hab⟩ := hcell
      obtain ⟨⟨kind, ai, ak, ab⟩, hX⟩ : ∃ X, l.getD i {} = X := ⟨_, rfl⟩
      rw [hX] at hx c0 c1 hab
      obtain ⟨_, ⟨i0, i1⟩, _, b0, b1⟩ := hx
      simp only [] at c0 c1 hab i0 i1 b0 b1
      have HAB := Lib.hid hab
      have HB0 := Lib.hid b0
      have HC0 := Lib.hid c0
      have HC1 := Lib.hid c1
      have HC3 := Lib.hid c3
      clear hab b0 hX c0 c1 c3
      obtain ⟨dd, hdd⟩ : ∃ k, E.deeds = k := ⟨_, rfl⟩
      obtain ⟨dk, hdk⟩ : ∃ k, E.dark = k := ⟨_, rfl⟩
      have HDe : Hid (∀ w' O', DskIs w' w.heap.size O' r E → Calls Try.prog 18 #[.pointer (some ⟨r, 0, none⟩)] w' fun e w2 => e = .returned (.int .i64 (dd : Int)) ∧ Below w'.heap.size w' w2) := fun w' O' h => by rw [← hdd]; exact bdeeds_any _ _ _ _ _ h (by omega)
      have HDk : Hid (∀ w' O', DskIs w' w.heap.size O' r E → Calls Try.prog 17 #[.pointer (some ⟨r, 0, none⟩)] w' fun e w2 => e = .returned (.bool dk) ∧ Below w'.heap.size w' w2) := fun w' O' h => by rw [← hdk]; exact bdark_any _ _ _ _ _ h
      rw [hdd] at hde
      have HDD := Lib.hid hdd
      have HDK := Lib.hid hdk
      clear hdd hdk
      go_upto_if 39 with (first
        | (go_at_call 18; (with_reducible refine (HDe.out _ _ HD.out).mono ?_); rintro e wz ⟨rfl, g⟩; have HD := Lib.hid (HD.out.after g); have HB := Lib.hid (below_step HB.out g); clear g)
        | (go_at_call 17; (with_reducible refine (HDk.out _ _ HD.out).mono ?_); rintro e wz ⟨rfl, g⟩; have HD := Lib.hid (HD.out.after g); have HB := Lib.hid (below_step HB.out g); have d0 : wz.cell? ⟨vb, off + i * 4, none⟩ = some (.int .i64 kind) := (HB.out.cell (p := ⟨vb, off + i * 4, none⟩) hvb).trans HC0.out; clear g))
      go_cut [10] from 39 to 53 (fun v10 wx => ∃ (c : Int) (O' : Foot) (E' : Dsk), v10 = .int .i64 c ∧ DskIs wx w.heap.size O' r E' ∧ FS n E E' c ∧ E'.deeds ≤ dd + 1 ∧ (c = 0 ∨ c = 2 ∨ c = 12) ∧ Below w.heap.size w wx)
      case first =>
        have HDz := HD
        clear d0
        by_cases hk : kind = 2
        · subst hk
          go_wp2_with (go_at_call 12; (with_reducible refine (bsync_any _ _ _ E _ HD.out (by have := HDD.out; omega)).mono ?_); rintro e wy ⟨rfl, Oy, d, g, k⟩; have HDy := Lib.hid d; have HBy := Lib.hid (HB.out.trans g.bel); clear d g k)
          go_meet
          exact ⟨_, Oy, _, rfl, HDy.out, HF.out.step hok.out (Or.inl rfl), fs_le (hok.out.step (Or.inl rfl)) HDD.out, (hok.out.step (Or.inl rfl)).2.1, HBy.out⟩
        · have hk2 : (kind == 2) = false := by simpa using hk
          have d1 : wz.cell? ⟨vb, off + i * 4 + 1, none⟩ = some (.int .i64 ai) := (HB.out.cell (p := ⟨vb, off + i * 4 + 1, none⟩) hvb).trans HC1.out
          have d3 : wz.cell? ⟨vb, off + i * 4 + 3, none⟩ = some bv := (HB.out.cell (p := ⟨vb, off + i * 4 + 3, none⟩) hvb).trans HC3.out
          go_wp2
          go_still_tail 11, (by kernel_rfl)
          change wpList _ _ _ _ _ wz.drew
          have HDd := Lib.hid (HD.out.after (Below.refl _ _).drew)
          have HBd := Lib.hid (HB.out.drew)
          have HAd := Lib.hid (HAB.out.below HBd.out)
          clear d1 d3 HD HB HDz
          generalize wz.drew = wd at HDd HBd HAd ⊢
          go_wp2_with (go_at_call 10; (with_reducible refine (bwrite_any _ _ _ E ai _ ab _ HDd.out (by have := HDD.out; omega) i0 i1 HAd.out HB0.out b1).mono ?_); rintro e wy ⟨rfl, Oy, d, g, k⟩; have HDy := Lib.hid d; have HBy := Lib.hid (HBd.out.trans g.bel); clear d g k)
          go_meet
          exact ⟨_, Oy, _, rfl, HDy.out, HF.out.step hok.out (Or.inr ⟨ai, ab, rfl⟩), fs_le (hok.out.step (Or.inr ⟨ai, ab, rfl⟩)) HDD.out, (hok.out.step (Or.inr ⟨ai, ab, rfl⟩)).2.1, HBy.out⟩
      case rest =>
        obtain ⟨c, O1, E1, rfl, hD1, hFS, hle1, hc, hB1⟩ := hcut
        have HD := Lib.hid hD1
        have HB := Lib.hid hB1
        have HFI := Lib.hid hFS.fi
        clear HDe HDk hD1 hB1 d0
        obtain ⟨de, hdde⟩ : ∃ k, E1.deeds = k := ⟨_, rfl⟩
        obtain ⟨dj, hdj⟩ : ∃ k, E1.dark = k := ⟨_, rfl⟩
        obtain ⟨f0, f1, f2, f3, f4, f5⟩ := hFS
        rw [HDD.out, hdde, HDK.out, hdj] at f2
        rw [HDD.out, hdde] at f3
        rw [hdde] at f4 hle1
        rw [hdj, hdde] at f5
        rw [HDK.out] at f1
        have HDE1 := Lib.hid hdde
        have HDe : Hid (∀ w' O', DskIs w' w.heap.size O' r E1 → Calls Try.prog 18 #[.pointer (some ⟨r, 0, none⟩)] w' fun e w2 => e = .returned (.int .i64 (de : Int)) ∧ Below w'.heap.size w' w2) := fun w' O' h => by rw [← hdde]; exact bdeeds_any _ _ _ _ _ h (by omega)
        have HDk : Hid (∀ w' O', DskIs w' w.heap.size O' r E1 → Calls Try.prog 17 #[.pointer (some ⟨r, 0, none⟩)] w' fun e w2 => e = .returned (.bool dj) ∧ Below w'.heap.size w' w2) := fun w' O' h => by rw [← hdj]; exact bdark_any _ _ _ _ _ h
        clear hdde hdj f0
        have hw : IntKind.i64.wrap ((dd : Int) + 1) = (dd : Int) + 1 := by rw [IntKind.wrap_i64]; omega
        rcases hc with rfl | rfl | rfl
        · obtain ⟨a1, rfl, rfl⟩ := f2 rfl
          subst a1
          have ge : (((dd + 1 : Nat) : Int) == (dd : Int) + 1) = true := by simp
          clear f1 f2 f3 f5
          by_cases hn : 0 ≤ n
          · have hle := f4 hn
            have hle2 : ¬ n < ((dd + 1 : Nat) : Int) := by omega
            clear f4
            go_wp2_with (first
              | (go_at_call 18; (with_reducible refine (HDe.out _ _ HD.out).mono ?_); rintro e wz ⟨rfl, g⟩; have HD := Lib.hid (HD.out.after g); have HB := Lib.hid (below_step HB.out g); clear g)
              | (go_at_call 17; (with_reducible refine (HDk.out _ _ HD.out).mono ?_); rintro e wz ⟨rfl, g⟩; have HD := Lib.hid (HD.out.after g); have HB := Lib.hid (below_step HB.out g); clear g))
            go_roundw
            case rel => exact ⟨i + 1, O1, E1, by go_num, by omega, by omega, HD.out, HFI.out, by have := HDE1.out; omega, HB.out⟩
            case measure => simp [intOf]; omega
          · clear f4
            go_wp2_with (first
              | (go_at_call 18; (with_reducible refine (HDe.out _ _ HD.out).mono ?_); rintro e wz ⟨rfl, g⟩; have HD := Lib.hid (HD.out.after g); have HB := Lib.hid (below_step HB.out g); clear g)
              | (go_at_call 17; (with_reducible refine (HDk.out _ _ HD.out).mono ?_); rintro e wz ⟨rfl, g⟩; have HD := Lib.hid (HD.out.after g); have HB := Lib.hid (below_step HB.out g); clear g))
            go_roundw
            case rel => exact ⟨i + 1, O1, E1, by go_num, by omega, by omega, HD.out, HFI.out, by have := HDE1.out; omega, HB.out⟩
            case measure => simp [intOf]; omega
        · have a1 := f3 (by decide)
          subst a1
          have hdk : dk = false := by cases dk with | false => rfl | true => have := f1 rfl; omega
          subst hdk
          have ge : ((de : Int) == (de : Int) + 1) = false := beq_eq_false_iff_ne.mpr (by omega)
          have gn : ((de : Int) != (de : Int)) = false := by simp
          clear f1 f2 f3
          cases dj with
          | false =>
            clear f5
            by_cases hn : 0 ≤ n
            · have hle := f4 hn
              have hle2 : ¬ n < (de : Int) := by omega
              clear f4
              go_wp2_with (first
                | (go_at_call 18; (with_reducible refine (HDe.out _ _ HD.out).mono ?_); rintro e wz ⟨rfl, g⟩; have HD := Lib.hid (HD.out.after g); have HB := Lib.hid (below_step HB.out g); clear g)
                | (go_at_call 17; (with_reducible refine (HDk.out _ _ HD.out).mono ?_); rintro e wz ⟨rfl, g⟩; have HD := Lib.hid (HD.out.after g); have HB := Lib.hid (below_step HB.out g); clear g))
              go_roundw
              case rel => exact ⟨i + 1, O1, E1, by go_num, by omega, by omega, HD.out, HFI.out, by have := HDE1.out; omega, HB.out⟩
              case measure => simp [intOf]; omega
            · clear f4
              go_wp2_with (first
                | (go_at_call 18; (with_reducible refine (HDe.out _ _ HD.out).mono ?_); rintro e wz ⟨rfl, g⟩; have HD := Lib.hid (HD.out.after g); have HB := Lib.hid (below_step HB.out g); clear g)
                | (go_at_call 17; (with_reducible refine (HDk.out _ _ HD.out).mono ?_); rintro e wz ⟨rfl, g⟩; have HD := Lib.hid (HD.out.after g); have HB := Lib.hid (below_step HB.out g); clear g))
              go_roundw
              case rel => exact ⟨i + 1, O1, E1, by go_num, by omega, by omega, HD.out, HFI.out, by have := HDE1.out; omega, HB.out⟩
              case measure => simp [intOf]; omega
          | true =>
            obtain ⟨hn, hdn⟩ := f5 rfl
            subst hdn
            clear f4 f5
            go_wp2_with (first
              | (go_at_call 18; (with_reducible refine (HDe.out _ _ HD.out).mono ?_); rintro e wz ⟨rfl, g⟩; have HD := Lib.hid (HD.out.after g); have HB := Lib.hid (below_step HB.out g); clear g)
              | (go_at_call 17; (with_reducible refine (HDk.out _ _ HD.out).mono ?_); rintro e wz ⟨rfl, g⟩; have HD := Lib.hid (HD.out.after g); have HB := Lib.hid (below_step HB.out g); clear g))
            go_roundw
            case rel => exact ⟨i + 1, O1, E1, by go_num, by omega, by omega, HD.out, HFI.out, by have := HDE1.out; omega, HB.out⟩
            case measure => simp [intOf]; omega
        · have a1 := f3 (by decide)
          subst a1
          have ge : ((de : Int) == (de : Int) + 1) = false := beq_eq_false_iff_ne.mpr (by omega)
          have gn : ((de : Int) != (de : Int)) = false := by simp
          clear f1 f2 f3
          cases dk with
          | false =>
            cases dj with
            | false =>
              clear f5
              by_cases hn : 0 ≤ n
              · have hle := f4 hn
                have hle2 : ¬ n < (de : Int) := by omega
                clear f4
                go_wp2_with (first
                  | (go_at_call 18; (with_reducible refine (HDe.out _ _ HD.out).mono ?_); rintro e wz ⟨rfl, g⟩; have HD := Lib.hid (HD.out.after g); have HB := Lib.hid (below_step HB.out g); clear g)
                  | (go_at_call 17; (with_reducible refine (HDk.out _ _ HD.out).mono ?_); rintro e wz ⟨rfl, g⟩; have HD := Lib.hid (HD.out.after g); have HB := Lib.hid (below_step HB.out g); clear g))
                go_roundw
                case rel => exact ⟨i + 1, O1, E1, by go_num, by omega, by omega, HD.out, HFI.out, by have := HDE1.out; omega, HB.out⟩
                case measure => simp [intOf]; omega
              · clear f4
                go_wp2_with (first
                  | (go_at_call 18; (with_reducible refine (HDe.out _ _ HD.out).mono ?_); rintro e wz ⟨rfl, g⟩; have HD := Lib.hid (HD.out.after g); have HB := Lib.hid (below_step HB.out g); clear g)
                  | (go_at_call 17; (with_reducible refine (HDk.out _ _ HD.out).mono ?_); rintro e wz ⟨rfl, g⟩; have HD := Lib.hid (HD.out.after g); have HB := Lib.hid (below_step HB.out g); clear g))
                go_roundw
                case rel => exact ⟨i + 1, O1, E1, by go_num, by omega, by omega, HD.out, HFI.out, by have := HDE1.out; omega, HB.out⟩
                case measure => simp [intOf]; omega
            | true =>
              obtain ⟨hn, hdn⟩ := f5 rfl
              subst hdn
              clear f4 f5
              go_wp2_with (first
                | (go_at_call 18; (with_reducible refine (HDe.out _ _ HD.out).mono ?_); rintro e wz ⟨rfl, g⟩; have HD := Lib.hid (HD.out.after g); have HB := Lib.hid (below_step HB.out g); clear g)
                | (go_at_call 17; (with_reducible refine (HDk.out _ _ HD.out).mono ?_); rintro e wz ⟨rfl, g⟩; have HD := Lib.hid (HD.out.after g); have HB := Lib.hid (below_step HB.out g); clear g))
              go_roundw
              case rel => exact ⟨i + 1, O1, E1, by go_num, by omega, by omega, HD.out, HFI.out, by have := HDE1.out; omega, HB.out⟩
              case measure => simp [intOf]; omega
          | true =>
            cases dj with
            | false =>
              clear f5
              by_cases hn : 0 ≤ n
              · have hle := f4 hn
                have hle2 : ¬ n < (de : Int) := by omega
                clear f4
                go_wp2_with (first
                  | (go_at_call 18; (with_reducible refine (HDe.out _ _ HD.out).mono ?_); rintro e wz ⟨rfl, g⟩; have HD := Lib.hid (HD.out.after g); have HB := Lib.hid (below_step HB.out g); clear g)
                  | (go_at_call 17; (with_reducible refine (HDk.out _ _ HD.out).mono ?_); rintro e wz ⟨rfl, g⟩; have HD := Lib.hid (HD.out.after g); have HB := Lib.hid (below_step HB.out g); clear g))
                go_roundw
                case rel => exact ⟨i + 1, O1, E1, by go_num, by omega, by omega, HD.out, HFI.out, by have := HDE1.out; omega, HB.out⟩
                case measure => simp [intOf]; omega
              · clear f4
                go_wp2_with (first
                  | (go_at_call 18; (with_reducible refine (HDe.out _ _ HD.out).mono ?_); rintro e wz ⟨rfl, g⟩; have HD := Lib.hid (HD.out.after g); have HB := Lib.hid (below_step HB.out g); clear g)
                  | (go_at_call 17; (with_reducible refine (HDk.out _ _ HD.out).mono ?_); rintro e wz ⟨rfl, g⟩; have HD := Lib.hid (HD.out.after g); have HB := Lib.hid (below_step HB.out g); clear g))
                go_roundw
                case rel => exact ⟨i + 1, O1, E1, by go_num, by omega, by omega, HD.out, HFI.out, by have := HDE1.out; omega, HB.out⟩
                case measure => simp [intOf]; omega
            | true =>
              obtain ⟨hn, hdn⟩ := f5 rfl
              subst hdn
              clear f4 f5
              go_wp2_with (first
                | (go_at_call 18; (with_reducible refine (HDe.out _ _ HD.out).mono ?_); rintro e wz ⟨rfl, g⟩; have HD := Lib.hid (HD.out.after g); have HB := Lib.hid (below_step HB.out g); clear g)
                | (go_at_call 17; (with_reducible refine (HDk.out _ _ HD.out).mono ?_); rintro e wz ⟨rfl, g⟩; have HD := Lib.hid (HD.out.after g); have HB := Lib.hid (below_step HB.out g); clear g))
              go_roundw
              case rel => exact ⟨i + 1, O1, E1, by go_num, by omega, by omega, HD.out, HFI.out, by have := HDE1.out; omega, HB.out⟩
              case measure => simp [intOf]; omega
    case neg =>
      have hdeeds : E.deeds ≤ 1000000 := by omega
      have HCR := Lib.hid (fun w' O' (h : DskIs w' w.heap.size O' r E) => bcrash_any w.heap.size O' r E 0 0 w' h hdeeds (by decide) (by decide) (by decide) (by decide))
      have HDK : Hid (∀ w' O', DskIs w' w.heap.size O' r (E.crash 0 0) → Calls Try.prog 17 #[.pointer (some ⟨r, 0, none⟩)] w' fun e w2 => e = .returned (.bool false) ∧ Below w'.heap.size w' w2) := fun w' O' h => bdark_any _ _ _ _ _ h
      have HSY : Hid (∀ w' O', DskIs w' w.heap.size O' r (E.crash 0 0) → Calls Try.prog 12 #[.pointer (some ⟨r, 0, none⟩)] w' fun e w2 => e = .returned (.int .i64 0) ∧ DskTo w.heap.size O' r (E.crash 0 0).sync.2 w' w2) := fun w' O' h => bsync_any _ _ _ _ _ h (show E.deeds ≤ 1000000 from hdeeds)
      by_cases h1 : i < l.length
      · have h2 : ¬ (i : Int) < 100 := by omega
        have h1i : (i : Int) < (l.length : Int) := by omega
        go_wp2_with (first
          | (go_at_call 15; (with_reducible refine (HCR.out _ _ HD.out).mono ?_); rintro e wz ⟨rfl, O, d, g, k⟩; have HD := Lib.hid d; have HB := Lib.hid (HB.out.trans g.bel); clear d g k)
          | (go_at_call 17; (with_reducible refine (HDK.out _ _ HD.out).mono ?_); rintro e wz ⟨rfl, g⟩; have HD := Lib.hid (HD.out.after g); have HB := Lib.hid (below_step HB.out g); clear g)
          | (go_at_call 12; (with_reducible refine (HSY.out _ _ HD.out).mono ?_); rintro e wz ⟨rfl, O, d, g, k⟩; have HB := Lib.hid (HB.out.trans g.bel); clear d g k))
        go_ret
        exact ⟨rfl, HB.out⟩
      · have h1i : ¬ (i : Int) < (l.length : Int) := by omega
        go_wp2_with (first
          | (go_at_call 15; (with_reducible refine (HCR.out _ _ HD.out).mono ?_); rintro e wz ⟨rfl, O, d, g, k⟩; have HD := Lib.hid d; have HB := Lib.hid (HB.out.trans g.bel); clear d g k)
          | (go_at_call 17; (with_reducible refine (HDK.out _ _ HD.out).mono ?_); rintro e wz ⟨rfl, g⟩; have HD := Lib.hid (HD.out.after g); have HB := Lib.hid (below_step HB.out g); clear g)
          | (go_at_call 12; (with_reducible refine (HSY.out _ _ HD.out).mono ?_); rintro e wz ⟨rfl, O, d, g, k⟩; have HB := Lib.hid (HB.out.trans g.bel); clear d g k))
        go_ret
        exact ⟨rfl, HB.out⟩

end Go.Proofs.Ytnndpainnoebgaa
