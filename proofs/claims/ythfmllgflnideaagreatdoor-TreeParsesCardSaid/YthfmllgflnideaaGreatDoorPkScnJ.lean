/-
  The document's Tokens, walked.
-/
import Derived.Test.YthfmllgflnideaaGreatDoorPkScnp
import Derived.Test.YthfmllgflnideaaGreatDoorPkMixs
import Derived.Deep.QuietTactic
import Derived.BigQuiet
namespace Go.Proofs.YthfmllgflnideaaGreatDoor
open Go.RowKit

/-- A token's cells. -/
def tkC (l : List Int) (p : TkV × Nat) : List Value := [.int .i64 (p.1.kind : Int), .string (strOfNums p.1.text), .int .u64 (p.1.n : Int), .int .i64 (spotAt l p.2).1, .int .i64 (spotAt l p.2).2]
/-- The cells of tokens. -/
def toksV (l : List Int) (L : List (TkV × Nat)) : List (List Value) := L.map (tkC l)
theorem toksV_len (l : List Int) (L : List (TkV × Nat)) : (toksV l L).length = L.length := by unfold toksV; simp
theorem toksV_more (l : List Int) (L : List (TkV × Nat)) (p : TkV × Nat) : toksV l (L ++ [p]) = toksV l L ++ [tkC l p] := by unfold toksV; simp
theorem tkC_one (l : List Int) (p : TkV × Nat) : ∀ u ∈ tkC l p, u.oneCell' = true := fun u hu => by
  simp only [tkC, List.mem_cons, List.not_mem_nil, or_false] at hu
  rcases hu with rfl | rfl | rfl | rfl | rfl <;> rfl
theorem info_tok : (Tryz.prog.info? 39).map (fun i => (i.zero, i.size, i.bytes)) = some (some (.agg #[.int .i64 0, .string ⟨#[]⟩, .int .u64 0, .int .i64 0, .int .i64 0]), 5, 48) := by kernel_rfl
theorem tok_cells {w : World} {p : Nat} {x0 x1 x2 x3 x4 : Value} (h0 : w.cell? ⟨p, 0, none⟩ = some x0) (h1 : w.cell? ⟨p, 1, none⟩ = some x1) (h2 : w.cell? ⟨p, 2, none⟩ = some x2) (h3 : w.cell? ⟨p, 3, none⟩ = some x3) (h4 : w.cell? ⟨p, 4, none⟩ = some x4) : ∀ j, j < 5 → w.cell? ⟨p, j, none⟩ = some (([x0, x1, x2, x3, x4] : List Value).getD j undef) := fun j hj => by
  have : j = 0 ∨ j = 1 ∨ j = 2 ∨ j = 3 ∨ j = 4 := by omega
  rcases this with rfl | rfl | rfl | rfl | rfl
  · exact h0
  · exact h1
  · exact h2
  · exact h3
  · exact h4
theorem load_fault {W : World} {g : Nat} {x y z : Value} (h : Var3 W g x y z) : (loadVar 28 ⟨g, 0, none⟩).run Tryz.prog W = .ok (.agg #[x, y, z]) W := by
  obtain ⟨c0, c1, c2, _, _, _, _⟩ := h
  go_simp
set_option maxRecDepth 100000 in
theorem stoks_results {W : World} {g : Nat} {x y z u : Value} {tmps : Array Value} (h : Var3 W g x y z) (h2 : tmps.getD 3 undef = .pointer (some ⟨g, 0, none⟩)) (h3 : tmps.getD 2 undef = u) : (results Tryz.f9 tmps).run Tryz.prog W = .ok (.tuple #[u, .agg #[x, y, z]]) W := by
  have e : (asAddr (Value.pointer (some ⟨g, 0, none⟩))).run Tryz.prog W = .ok ⟨g, 0, none⟩ W := rfl
  have hr : Tryz.f9.results = #[.tmp 2, .cell 3 28] := rfl
  have q2 : tmps[3]?.getD undef = .pointer (some ⟨g, 0, none⟩) := by simpa using h2
  have q3 : tmps[2]?.getD undef = u := by simpa using h3
  simp only [results, hr]
  simp [Sem.run_bind, Result.andThen, q2, q3, e, load_fault h]
/-- What Tokens gives of a source that isn't too long. -/
def GivesToks (l : List Int) (w : World) (e : Ending) (w' : World) : Prop :=
  Below w.heap.size w w' ∧ ((∃ k c, tokF l 0 = .error (k, c) ∧ e = .returned (.tuple #[.slice none 0 0, .agg #[.int .i64 c, .int .i64 (spotAt l k).1, .int .i64 (spotAt l k).2]])) ∨
    ∃ L v, tokF l 0 = .ok L ∧ e = .returned (.tuple #[v, .agg #[.int .i64 0, .int .i64 0, .int .i64 0]]) ∧ RowK 39 5 w' w.heap.size v (toksV l (L ++ [(tk0, l.length)])))
/-- The tokens ahead of a place, then those from it on. -/
def Ahead (l : List Int) (i : Nat) (acc : List (TkV × Nat)) : Prop := tokF l 0 = (tokF l i).map (fun L => acc ++ L)
theorem Ahead.zero (l : List Int) : Ahead l 0 [] := by
  unfold Ahead
  cases tokF l 0 <;> rfl
theorem Ahead.same {l : List Int} {i j : Nat} {acc : List (TkV × Nat)} (h : Ahead l i acc) (e : tokF l i = tokF l j) : Ahead l j acc := by
  unfold Ahead at *
  rw [h, e]
theorem Ahead.more {l : List Int} {i j : Nat} {acc : List (TkV × Nat)} {t : TkV} (h : Ahead l i acc) (e : tokF l i = (tokF l j).map (fun L => (t, i) :: L)) : Ahead l j (acc ++ [(t, i)]) := by
  unfold Ahead at *
  rw [h, e]
  cases tokF l j with
  | error x => rfl
  | ok L => simp [Except.map]
theorem Ahead.bad {l : List Int} {i : Nat} {acc : List (TkV × Nat)} {x : Nat × Int} (h : Ahead l i acc) (e : tokF l i = .error x) : tokF l 0 = .error x := by
  unfold Ahead at h
  rw [h, e]
  rfl
theorem Ahead.fine {l : List Int} {i : Nat} {acc : List (TkV × Nat)} (h : Ahead l i acc) (e : tokF l i = .ok []) : tokF l 0 = .ok acc := by
  unfold Ahead at h
  rw [h, e]
  simp [Except.map]

theorem Var5.put34 {W : World} {p : Nat} {x0 x1 x2 x3 x4 : Value} (h : Var5 W p x0 x1 x2 x3 x4) (y3 y4 : Value) : Var5 ((W.setCell ⟨p, 3, none⟩ y3).setCell ⟨p, 4, none⟩ y4) p x0 x1 x2 y3 y4 := by
  obtain ⟨c0, c1, c2, c3, c4, q, s⟩ := h
  refine ⟨?_, ?_, ?_, ?_, ?_, fun i => ?_, ?_⟩ <;> simp [go_sem, *]
/-- What each operation of 'return nil, api.Fault{..}' has made. -/
def TF (C : Int) (g n cap2 i : Nat) (X Y : Int) : Nat → Value → World → Prop
  | 0, v, _ => v = .int .i64 C
  | 1, v, _ => v = .slice (some ⟨g, 0, none⟩) (n + 1) cap2
  | 2, v, _ => v = .int .i64 (i : Int)
  | 3, v, _ => v = .pointer (some ⟨g, i * 2, none⟩)
  | 4, v, _ => v = .agg #[.int .i64 X, .int .i64 Y]
  | 5, v, _ => v = .agg #[.int .i64 C, .int .i64 X, .int .i64 Y]
  | 6, v, _ => v = .slice none 0 0
  | _, _, _ => True
theorem TF.keep {C : Int} {g n cap2 i : Nat} {X Y : Int} (k : Nat) (v : Value) (w w' : World) (h : TF C g n cap2 i X Y k v w) (_hb : Below w.heap.size w w') : TF C g n cap2 i X Y k v w' := by
  match k, h with
  | 0, h => exact h
  | 1, h => exact h
  | 2, h => exact h
  | 3, h => exact h
  | 4, h => exact h
  | 5, h => exact h
  | 6, h => exact h
  | n + 7, _ => exact trivial

set_option maxRecDepth 100000 in
set_option maxHeartbeats 8000000 in
theorem stokens_long (s : ByteArray) (w : World) (hm : 40000 < s.size) :
    Calls Tryz.prog 9 #[.string s] w fun e w' => e = .returned (.tuple #[.slice none 0 0, .agg #[.int .i64 9, .int .i64 1, .int .i64 1]]) ∧ Below w.heap.size w w' := by
  obtain ⟨W0, hW0⟩ : ∃ W, w.alloc (.cells #[.int .i64 0, .int .i64 0, .int .i64 0] 28) = W := ⟨_, rfl⟩
  have V0 : Var3 W0 w.heap.size (.int .i64 0) (.int .i64 0) (.int .i64 0) := by rw [← hW0]; exact Var3.fresh _ _ _ _ _ _ rfl
  have g0 : Below w.heap.size w W0 := by rw [← hW0]; exact (Below.refl _ _).alloc (Nat.le_refl _) _
  have HV := Lib.hid V0
  have HG := Lib.hid g0
  obtain ⟨c0, c1, c2, q0, q1, q2, s0⟩ := V0
  have hm' : (40000 : Int) < (s.size : Int) := by omega
  clear hm g0
  go_enter Tryz.func9, Tryz.ntmps9
  go_wp2
  refine bodyPost_ret (stoks_results (x := .int .i64 9) (y := .int .i64 1) (z := .int .i64 1) (u := .slice none 0 0) (HV.out.put _ _ _) rfl rfl) rfl ?_
  exact ⟨rfl, below_put3 HG.out (Nat.le_refl _) _ _ _⟩

set_option maxRecDepth 100000 in
set_option maxHeartbeats 16000000 in
theorem stokens_any (s : ByteArray) (w : World) (hm : s.size ≤ 40000) : Calls Tryz.prog 9 #[.string s] w (GivesToks (runesOf (nums s)) w) := by
  obtain ⟨W0, hW0⟩ : ∃ W, w.alloc (.cells #[.int .i64 0, .int .i64 0, .int .i64 0] 28) = W := ⟨_, rfl⟩
  have V0 : Var3 W0 w.heap.size (.int .i64 0) (.int .i64 0) (.int .i64 0) := by rw [← hW0]; exact Var3.fresh _ _ _ _ _ _ rfl
  have g0 : Below w.heap.size w W0 := by rw [← hW0]; exact (Below.refl _ _).alloc (Nat.le_refl _) _
  have HRU := Lib.hid (fun W => rrunes_any s W (by omega))
  have hok := runes_ok (nums_byte s)
  have hll := runes_len (nums s)
  rw [nums_length] at hll
  obtain ⟨l, hl⟩ : ∃ l, runesOf (nums s) = l := ⟨_, rfl⟩
  rw [hl] at HRU hok hll ⊢
  have HOK := Lib.hid hok
  have HL := Lib.hid hll
  have HV := Lib.hid V0
  have HG := Lib.hid g0
  have hm' : ¬ (40000 : Int) < (s.size : Int) := by omega
  have HM := Lib.hid (show l.length ≤ 40000 by omega)
  clear hm hl hok hll V0 g0
  go_enter Tryz.func9, Tryz.ntmps9
  go_wp2_with (first
    | (go_at_call 15; (with_reducible refine (HRU.out _).mono ?_); rintro e w1 ⟨v, rfl, hi, h1, _⟩; have HI := Lib.hid hi; have V1 := Lib.hid (HV.out.after h1); have G1 := Lib.hid (below_step HG.out h1); clear hi h1)
    | (go_at_call 16; (with_reducible refine (splaces_any v l w1 HI.out (Nat.le_trans HM.out (by decide))).mono ?_); rintro e w2 ⟨r, rfl, hr, h2⟩; have HP := Lib.hid hr; have HI2 := Lib.hid (HI.out.below h2); have V2 := Lib.hid (V1.out.after h2); have G2 := Lib.hid (below_step G1.out h2); clear hr h2; obtain ⟨W3, hW3⟩ : ∃ W, w2.alloc (.cells #[] 39) = W := ⟨_, rfl⟩))
  obtain ⟨b, off, cap, rfl, hcap, hb, hcell⟩ := HI2.out
  obtain ⟨g, cap2, rfl, hg0, hg1, hgc⟩ := HP.out.form (by rw [spotsV_len]; omega)
  rw [spotsV_len] at hgc
  rw [spotsV_len]
  have HSP : Hid (∀ i, i < l.length + 1 → w2.cell? ⟨g, i * 2, none⟩ = some (.int .i64 (spotAt l i).1) ∧ w2.cell? ⟨g, i * 2 + 1, none⟩ = some (.int .i64 (spotAt l i).2)) := fun i hi => by
    have e0 := HP.out.at i 0 (by rw [spotsV_len]; exact hi) (by decide)
    have e1 := HP.out.at i 1 (by rw [spotsV_len]; exact hi) (by decide)
    rw [spotsV_at l hi] at e0 e1
    exact ⟨e0, e1⟩
  have HCL := Lib.hid hcell
  have R3 : RowK 39 5 W3 w2.heap.size (.slice (some ⟨w2.heap.size, 0, none⟩) 0 0) [] := by rw [← hW3]; exact RowK.fresh _ 5 w2 _ _ rfl (Nat.le_refl _)
  have g3 : Below w2.heap.size w2 W3 := by rw [← hW3]; exact (Below.refl _ _).alloc (Nat.le_refl _) _
  have HR := Lib.hid R3
  have HB := Lib.hid g3
  have HVB := Lib.hid (show w.heap.size < w2.heap.size from V2.out.s)
  have HVI := Lib.hid (show ∀ W, Below w2.heap.size w2 W → Ints .i32 W (.slice (some ⟨b, off, none⟩) l.length cap) l from fun W h => HI2.out.below h)
  clear hcell R3 g3 hcap hg0
  obtain ⟨n, hn⟩ : ∃ n, l.length = n := ⟨_, rfl⟩
  have HN := Lib.hid hn
  rw [hn] at hgc HVI ⊢
  have hn4 : n ≤ 40000 := by have := HM.out; omega
  clear hn hW3
  go_loopw [6, 7] (fun v6 v7 wr => ∃ (i : Nat) (acc : List (TkV × Nat)), i ≤ n ∧ acc.length ≤ i ∧ v7 = .int .i64 (i : Int) ∧ RowK 39 5 wr w2.heap.size v6 (toksV l acc) ∧ Hid (Ahead l i acc) ∧ Below w2.heap.size w2 wr) (fun _ v7 _ => n - (intOf v7).toNat)
  case atStart => exact ⟨0, [], Nat.zero_le _, Nat.le_refl _, rfl, HR.out, Lib.hid (Ahead.zero l), HB.out⟩
  case round =>
    obtain ⟨i, acc, hi, hacc, rfl, hrow, HA, hbel⟩ := hrel
    have HRW := Lib.hid hrow
    have HB4 := Lib.hid hbel
    clear hrow hbel
    obtain ⟨sp0, sp1⟩ := HSP.out i (by rw [HN.out]; omega)
    have y0 := (HB4.out.cell (p := ⟨g, i * 2, none⟩) hg1).trans sp0
    have y1 := (HB4.out.cell (p := ⟨g, i * 2 + 1, none⟩) hg1).trans sp1
    obtain ⟨X, hX⟩ : ∃ X, (spotAt l i).1 = X := ⟨_, rfl⟩
    obtain ⟨Y, hY⟩ : ∃ Y, (spotAt l i).2 = Y := ⟨_, rfl⟩
    rw [hX] at y0
    rw [hY] at y1
    have HXY := Lib.hid (And.intro hX hY)
    clear sp0 sp1 hX hY
    by_cases h1 : i < n
    · have hil : i < l.length := by rw [HN.out]; exact h1
      have x0 := (HB4.out.cell (p := ⟨b, off + i, none⟩) hb).trans (HCL.out i hil)
      have HT1 := Lib.hid (@tokF_gap l i hil)
      have HT2 := Lib.hid (@tokF_note l i hil)
      have HT3 := Lib.hid (@tokF_bad l i hil)
      have HT4 := Lib.hid (@tokF_one l i hil)
      have HNX := Lib.hid (@oneF_next l i hil)
      have HLE := Lib.hid (@lineEnd_bd l i (Nat.le_of_lt hil))
      have HONE := Lib.hid (sone_any (.slice (some ⟨b, off, none⟩) n cap) l i wr (HVI.out wr HB4.out) HOK.out (Nat.le_trans HM.out (by decide)) hil)
      obtain ⟨z, hz⟩ : ∃ z, l.getD i 0 = z := ⟨_, rfl⟩
      rw [hz] at x0 HT1 HT2 HT3 HT4
      have hi1 : IntKind.i64.wrap ((i : Int) + 1) = ((i + 1 : Nat) : Int) := by rw [IntKind.wrap_i64]; omega
      have HZ := Lib.hid hz
      clear hil hz
      cases hgz : gapB z with
      | true =>
        have HG5 := Lib.hid (HA.out.same (HT1.out hgz))
        have hz3 : z = 32 ∨ z = 9 ∨ z = 10 := by unfold gapB at hgz; simp at hgz; omega
        clear HT1 HT2 HT3 HT4 HNX HLE HONE hgz
        rcases hz3 with rfl | rfl | rfl
        · go_wp2
          go_roundw
          case rel => exact ⟨i + 1, acc, by omega, by omega, by go_num, HRW.out, HG5, HB4.out⟩
          case measure => simp [intOf]; omega
        · go_wp2
          go_roundw
          case rel => exact ⟨i + 1, acc, by omega, by omega, by go_num, HRW.out, HG5, HB4.out⟩
          case measure => simp [intOf]; omega
        · go_wp2
          go_roundw
          case rel => exact ⟨i + 1, acc, by omega, by omega, by go_num, HRW.out, HG5, HB4.out⟩
          case measure => simp [intOf]; omega
      | false =>
        have b32 : (z == 32) = false := by unfold gapB at hgz; simp at hgz; simp; omega
        have b9 : (z == 9) = false := by unfold gapB at hgz; simp at hgz; simp; omega
        have b10 : (z == 10) = false := by unfold gapB at hgz; simp at hgz; simp; omega
        by_cases h35 : z = 35
        · have HG5 := Lib.hid (HA.out.same (HT2.out h35))
          obtain ⟨E, hE⟩ : ∃ E, lineEnd l i = E := ⟨_, rfl⟩
          have HIN := Lib.hid (fun j => @lineEnd_in l i j)
          have HOUT := Lib.hid (@lineEnd_out l i)
          have hle := HLE.out
          rw [hE] at HG5 HIN HOUT hle
          rw [HN.out] at HOUT hle
          have h1e : i < E := by rw [← hE]; exact lineEnd_one (by rw [HN.out]; exact h1) (by rw [HZ.out]; omega)
          subst h35
          clear HT1 HT2 HT3 HT4 HNX HLE HONE hgz hE
          go_wp2
          go_loop [7] (fun v7 => ∃ j : Nat, i ≤ j ∧ j ≤ E ∧ v7 = .int .i64 (j : Int)) (fun v7 => E - (intOf v7).toNat)
          case atStart => exact ⟨i, Nat.le_refl _, by omega, rfl⟩
          case round =>
            obtain ⟨j, hij, hjE, rfl⟩ := hrel
            by_cases hj : j < E
            · have xj := (HB4.out.cell (p := ⟨b, off + j, none⟩) hb).trans (HCL.out j (by rw [HN.out]; omega))
              have hne := HIN.out j hij hj
              obtain ⟨y, hy⟩ : ∃ y, l.getD j 0 = y := ⟨_, rfl⟩
              rw [hy] at xj hne
              have hyb : (y != 10) = true := by simpa using hne
              have hj1 : IntKind.i64.wrap ((j : Int) + 1) = ((j + 1 : Nat) : Int) := by rw [IntKind.wrap_i64]; omega
              have hjn : j < n := by omega
              clear hy hne
              go_wp2
              go_round
              case rel => exact ⟨j + 1, by omega, by omega, by go_num⟩
              case measure => simp [intOf]; omega
            · obtain rfl : j = E := by omega
              by_cases hjn : j < n
              · have xj := (HB4.out.cell (p := ⟨b, off + j, none⟩) hb).trans (HCL.out j (by rw [HN.out]; omega))
                rw [HOUT.out hjn] at xj
                go_wp2
                go_roundw
                case rel => exact ⟨j, acc, by omega, by omega, by go_num, HRW.out, HG5, HB4.out⟩
                case measure => simp [intOf]; omega
              · go_wp2
                go_roundw
                case rel => exact ⟨j, acc, by omega, by omega, by go_num, HRW.out, HG5, HB4.out⟩
                case measure => simp [intOf]; omega
        · have b35 : (z == 35) = false := by simpa using h35
          obtain ⟨T, NX, C, ho⟩ : ∃ T NX C, oneF l i = (T, NX, C) := ⟨_, _, _, rfl⟩
          rw [ho] at HONE HT3 HT4 HNX
          have HO : Hid (Calls Tryz.prog 17 #[.slice (some ⟨b, off, none⟩) n cap, .int .i64 (i : Int)] wr fun e w' => e = .returned (.tuple #[.agg #[.int .i64 (T.kind : Int), .string (strOfNums T.text), .int .u64 (T.n : Int), .int .i64 0, .int .i64 0], .int .i64 (NX : Int), .int .i64 C]) ∧ Below wr.heap.size wr w') := HONE
          have HVR := Lib.hid (show Var3 wr w.heap.size (.int .i64 0) (.int .i64 0) (.int .i64 0) from V2.out.after HB4.out)
          have HGW := Lib.hid (show Below w.heap.size w wr from below_step G2.out HB4.out)
          have HSZ := Lib.hid (show w2.heap.size ≤ wr.heap.size from HB4.out.size)
          clear HT1 HT2 HLE HONE
          by_cases hC : C = 0
          · have HF1 := Lib.hid (HT4.out hgz h35 hC)
            have hnx := HNX.out hC
            have hnx1 : i < NX := hnx.1
            have HAN := Lib.hid (HA.out.more (HF1.out hnx1))
            have hnx2 : NX ≤ n := by have := hnx.2; rw [HN.out] at this; exact this
            subst hC
            have hl6 : (toksV l acc).length ≤ 1000000 := by rw [toksV_len]; omega
            have HL6 := Lib.hid hl6
            have HRR := Lib.hid (show ∀ W, Below wr.heap.size wr W → RowK 39 5 W w2.heap.size u6 (toksV l acc) from fun W h => HRW.out.below h)
            clear HT3 HT4 HNX ho hnx hl6 HF1
            go_wp2_with (first
              | (go_at_call 17; (with_reducible refine (HO.out).mono ?_); rintro e w4 ⟨rfl, h4⟩; have hp4 : wr.heap.size ≤ w4.heap.size := h4.size; have hg4 : g < w4.heap.size := Nat.lt_of_lt_of_le (Nat.lt_of_lt_of_le hg1 HSZ.out) hp4; have z0 := (h4.cell (p := ⟨g, i * 2, none⟩) (Nat.lt_of_lt_of_le hg1 HSZ.out)).trans y0; have z1 := (h4.cell (p := ⟨g, i * 2 + 1, none⟩) (Nat.lt_of_lt_of_le hg1 HSZ.out)).trans y1; obtain ⟨W5, hW5⟩ : ∃ W, w4.alloc (.cells #[.int .i64 0, .string ⟨#[]⟩, .int .u64 0, .int .i64 0, .int .i64 0] 39) = W := ⟨_, rfl⟩; have h5 : Below wr.heap.size wr W5 := (by rw [← hW5]; exact h4.alloc hp4 _); have F5 : Var5 W5 w4.heap.size (.int .i64 0) (.string ⟨#[]⟩) (.int .u64 0) (.int .i64 0) (.int .i64 0) := (by rw [← hW5]; exact Var5.fresh _ _ _ _ _ _ _ _ rfl); have t0 : W5.cell? ⟨g, i * 2, none⟩ = some (.int .i64 X) := (h5.cell (p := ⟨g, i * 2, none⟩) (Nat.lt_of_lt_of_le hg1 HSZ.out)).trans y0; have t1 : W5.cell? ⟨g, i * 2 + 1, none⟩ = some (.int .i64 Y) := (h5.cell (p := ⟨g, i * 2 + 1, none⟩) (Nat.lt_of_lt_of_le hg1 HSZ.out)).trans y1; have hn1 : ¬ g = w4.heap.size := Nat.ne_of_lt hg4; have hn2 : ¬ w4.heap.size = g := fun e => hn1 e.symm; obtain ⟨W6, hW6⟩ : ∃ W, (((((W5.setCell ⟨w4.heap.size, 0, none⟩ (.int .i64 (T.kind : Int))).setCell ⟨w4.heap.size, 1, none⟩ (.string (strOfNums T.text))).setCell ⟨w4.heap.size, 2, none⟩ (.int .u64 (T.n : Int))).setCell ⟨w4.heap.size, 3, none⟩ (.int .i64 0)).setCell ⟨w4.heap.size, 4, none⟩ (.int .i64 0)) = W := ⟨_, rfl⟩; have F6 : Var5 W6 w4.heap.size (.int .i64 (T.kind : Int)) (.string (strOfNums T.text)) (.int .u64 (T.n : Int)) (.int .i64 0) (.int .i64 0) := (by rw [← hW6]; exact F5.put _ _ _ _ _); have h6 : Below wr.heap.size wr W6 := (by rw [← hW6]; exact below_put5 h5 hp4 _ _ _ _ _); have u0 : W6.cell? ⟨g, i * 2, none⟩ = some (.int .i64 X) := (h6.cell (p := ⟨g, i * 2, none⟩) (Nat.lt_of_lt_of_le hg1 HSZ.out)).trans y0; have u1 : W6.cell? ⟨g, i * 2 + 1, none⟩ = some (.int .i64 Y) := (h6.cell (p := ⟨g, i * 2 + 1, none⟩) (Nat.lt_of_lt_of_le hg1 HSZ.out)).trans y1; obtain ⟨W7, hW7⟩ : ∃ W, ((W6.setCell ⟨w4.heap.size, 3, none⟩ (.int .i64 X)).setCell ⟨w4.heap.size, 4, none⟩ (.int .i64 Y)) = W := ⟨_, rfl⟩; have F7 : Var5 W7 w4.heap.size (.int .i64 (T.kind : Int)) (.string (strOfNums T.text)) (.int .u64 (T.n : Int)) (.int .i64 X) (.int .i64 Y) := (by rw [← hW7]; exact F6.put34 _ _); have h7 : Below wr.heap.size wr W7 := (by rw [← hW7]; exact (h6.setCell hp4 _).setCell hp4 _); obtain ⟨W8, hW8⟩ : ∃ W, W7.alloc (.cells #[.int .i64 (T.kind : Int), .string (strOfNums T.text), .int .u64 (T.n : Int), .int .i64 X, .int .i64 Y] 39) = W := ⟨_, rfl⟩; have h8 : Below wr.heap.size wr W8 := (by rw [← hW8]; exact h7.alloc (Nat.le_trans hp4 (Nat.le_of_lt F7.s)) _); have CA : Hid (∀ j, j < 5 → W8.cell? ⟨W7.heap.size, j, none⟩ = some ((tkC l (T, i)).getD j undef)) := Lib.hid (by unfold tkC; rw [HXY.out.1, HXY.out.2]; exact tok_cells (by rw [← hW8]; simp) (by rw [← hW8]; simp) (by rw [← hW8]; simp) (by rw [← hW8]; simp) (by rw [← hW8]; simp)); have R8 := Lib.hid (HRR.out W8 h8); have G8 := Lib.hid (HB4.out.trans (h8.mono HSZ.out)); have S8 : Hid (w2.heap.size ≤ W8.heap.size) := Lib.hid (Nat.le_trans HSZ.out h8.size); have hP : w4.heap.size < W7.heap.size := F7.s; clear h4 h5 h6 h7 h8 z0 z1 hp4; have d0 := F5.c0; have r0 := F5.q 0; have k0 := F6.c0; have m0 := F6.q 0; have o0 := F7.c0; have p0 := F7.q 0; have d1 := F5.c1; have r1 := F5.q 1; have k1 := F6.c1; have m1 := F6.q 1; have o1 := F7.c1; have p1 := F7.q 1; have d2 := F5.c2; have r2 := F5.q 2; have k2 := F6.c2; have m2 := F6.q 2; have o2 := F7.c2; have p2 := F7.q 2; have d3 := F5.c3; have r3 := F5.q 3; have k3 := F6.c3; have m3 := F6.q 3; have o3 := F7.c3; have p3 := F7.q 3; have d4 := F5.c4; have r4 := F5.q 4; have k4 := F6.c4; have m4 := F6.q 4; have o4 := F7.c4; have p4 := F7.q 4; clear F5 F6 F7)
              | (at_builtin; (refine wp_rowK (T := 33) (t := 39) (sz := 5) rfl _ _ rfl Tryz.underlying33 info_tok rfl (by decide) (by decide) w2.heap.size _ _ rfl R8.out W7.heap.size (tkC l (T, i)) rfl rfl CA.out (tkC_one _ _) HL6.out S8.out ?_)))
            intro v' w' hr' ho' hob
            have R9 : Hid (RowK 39 5 w' w2.heap.size v' (toksV l (acc ++ [(T, i)]))) := Lib.hid (by rw [toksV_more]; exact hr')
            have G9 := Lib.hid (G8.out.trans ho'.bel)
            clear hr' ho' hob R8 G8 CA S8
            go_wp2
            go_roundw
            case rel => exact ⟨NX, acc ++ [(T, i)], hnx2, by rw [List.length_append, List.length_singleton]; omega, rfl, R9.out, HAN, G9.out⟩
            case measure => simp [intOf]; omega
          · have HF := Lib.hid (HA.out.bad (HT3.out hgz h35 hC))
            have hCb : (C != 0) = true := by simpa using hC
            clear HT3 HT4 HNX ho
            go_wp2_with (go_at_call 17; (with_reducible refine (HO.out).mono ?_); rintro e w4 ⟨rfl, h4⟩; have V4 := Lib.hid (HVR.out.after h4); have G4 := Lib.hid (below_step HGW.out h4); have z0 := (h4.cell (p := ⟨g, i * 2, none⟩) (Nat.lt_of_lt_of_le hg1 HSZ.out)).trans y0; have z1 := (h4.cell (p := ⟨g, i * 2 + 1, none⟩) (Nat.lt_of_lt_of_le hg1 HSZ.out)).trans y1; have hg4 : g < w4.heap.size := Nat.lt_of_lt_of_le (Nat.lt_of_lt_of_le hg1 HSZ.out) h4.size; obtain ⟨W5, hW5⟩ : ∃ W, w4.alloc (.cells #[.int .i64 0, .string ⟨#[]⟩, .int .u64 0, .int .i64 0, .int .i64 0] 39) = W := ⟨_, rfl⟩; have h5 : Below w4.heap.size w4 W5 := (by rw [← hW5]; exact (Below.refl _ _).alloc (Nat.le_refl _) _); have F5 : Hid (Var5 W5 w4.heap.size (.int .i64 0) (.string ⟨#[]⟩) (.int .u64 0) (.int .i64 0) (.int .i64 0)) := Lib.hid (by rw [← hW5]; exact Var5.fresh _ _ _ _ _ _ _ _ rfl); have V5 := Lib.hid (V4.out.after h5); have G5 := Lib.hid (below_step G4.out h5); have t0 := (h5.cell (p := ⟨g, i * 2, none⟩) hg4).trans z0; have t1 := (h5.cell (p := ⟨g, i * 2 + 1, none⟩) hg4).trans z1; have hn1 : ¬ g = w4.heap.size := Nat.ne_of_lt hg4; have hn2 : ¬ w4.heap.size = g := fun e => hn1 e.symm; have hn3 : ¬ w.heap.size = w4.heap.size := Nat.ne_of_lt V4.out.s; have hn4' : ¬ w4.heap.size = w.heap.size := fun e => hn3 e.symm; clear h4 h5; have d0 := F5.out.c0; have r0 := F5.out.q 0; have d1 := F5.out.c1; have r1 := F5.out.q 1; have d2 := F5.out.c2; have r2 := F5.out.q 2; have d3 := F5.out.c3; have r3 := F5.out.q 3; have d4 := F5.out.c4; have r4 := F5.out.q 4; have c0 := V5.out.c0; have c1 := V5.out.c1; have c2 := V5.out.c2; have q0 := V5.out.q0; have q1 := V5.out.q1; have q2 := V5.out.q2)
            obtain ⟨W6, hW6⟩ : ∃ W, put5 W5 w4.heap.size (.int .i64 (T.kind : Int)) (.string (strOfNums T.text)) (.int .u64 (T.n : Int)) (.int .i64 0) (.int .i64 0) = W := ⟨_, rfl⟩
            have hW6' : (((((W5.setCell ⟨w4.heap.size, 0, none⟩ (.int .i64 (T.kind : Int))).setCell ⟨w4.heap.size, 1, none⟩ (.string (strOfNums T.text))).setCell ⟨w4.heap.size, 2, none⟩ (.int .u64 (T.n : Int))).setCell ⟨w4.heap.size, 3, none⟩ (.int .i64 0)).setCell ⟨w4.heap.size, 4, none⟩ (.int .i64 0)) = W6 := hW6
            rw [hW6']
            have V6 : Var3 W6 w.heap.size (.int .i64 0) (.int .i64 0) (.int .i64 0) := by
              have e : W6.heap[w.heap.size]? = W5.heap[w.heap.size]? := by rw [← hW6]; exact put5_else _ _ _ _ _ _ _ _ hn3
              have hs : W5.heap.size = W6.heap.size := by rw [← hW6, put5_size]
              exact ⟨(World.cell?_of_block e).trans V5.out.c0, (World.cell?_of_block e).trans V5.out.c1, (World.cell?_of_block e).trans V5.out.c2, (World.frozen?_of_block e).trans V5.out.q0, (World.frozen?_of_block e).trans V5.out.q1, (World.frozen?_of_block e).trans V5.out.q2, by rw [← hs]; exact V5.out.s⟩
            have G6 : Below w.heap.size w W6 := by rw [← hW6]; exact below_put5 G5.out (Nat.le_of_lt V4.out.s) _ _ _ _ _
            have eg : W6.heap[g]? = W5.heap[g]? := by rw [← hW6]; exact put5_else _ _ _ _ _ _ _ _ hn1
            have hg6 : g < W6.heap.size := by rw [← hW6, put5_size]; exact Nat.lt_of_lt_of_le hg4 (by rw [← hW5]; simp)
            have u0 := (World.cell?_of_block (a := ⟨g, i * 2, none⟩) eg).trans t0
            have u1 := (World.cell?_of_block (a := ⟨g, i * 2 + 1, none⟩) eg).trans t1
            have HV6 := Lib.hid V6
            have HG6 := Lib.hid G6
            have HX : Hid (∀ W, Below W6.heap.size W6 W → W.cell? ⟨g, i * 2, none⟩ = some (.int .i64 X) ∧ W.cell? ⟨g, i * 2 + 1, none⟩ = some (.int .i64 Y)) := Lib.hid fun W hb => ⟨(hb.cell (p := ⟨g, i * 2, none⟩) hg6).trans u0, (hb.cell (p := ⟨g, i * 2 + 1, none⟩) hg6).trans u1⟩
            clear t0 t1 d0 d1 d2 d3 d4 r0 r1 r2 r3 r4 c0 c1 c2 q0 q1 q2 z0 z1 y0 y1 x0 V6 G6 eg u0 u1 hW6 hW6' hW5
            refine wp_region_mix 7 (TF C g n cap2 i X Y) (fun _ => false) (by kernel_rfl) (by kernel_rfl) TF.keep (fun _ _ _ h => by cases h) ?_ ?_
            · simp only [List.take_succ_cons, List.take_zero]
              refine (StepsAll.cons ?_ (StepsAll.cons ?_ (StepsAll.cons ?_ (StepsAll.cons ?_ (StepsAll.cons ?_ (StepsAll.cons ?_ (StepsAll.cons ?_ StepsAll.nil)))))))
              · intro u W hb hd
                simp only [putAll, Act.put, List.setIfInBounds_toArray, List.set_cons_succ, List.set_cons_zero, Nat.zero_add, Nat.reduceAdd]
                go_wp2
                first | exact ⟨rfl, Below.refl _ _⟩ | exact ⟨_, rfl, rfl, Below.refl _ _, fun h => by simp at h⟩ | exact ⟨_, rfl, rfl, Below.refl _ _⟩ | exact ⟨rfl, Below.refl _ _, fun h => by simp at h⟩
              · intro u W hb hd
                simp only [putAll, Act.put, List.setIfInBounds_toArray, List.set_cons_succ, List.set_cons_zero, Nat.zero_add, Nat.reduceAdd]
                go_wp2
                first | exact ⟨rfl, Below.refl _ _⟩ | exact ⟨_, rfl, rfl, Below.refl _ _, fun h => by simp at h⟩ | exact ⟨_, rfl, rfl, Below.refl _ _⟩ | exact ⟨rfl, Below.refl _ _, fun h => by simp at h⟩
              · intro u W hb hd
                simp only [putAll, Act.put, List.setIfInBounds_toArray, List.set_cons_succ, List.set_cons_zero, Nat.zero_add, Nat.reduceAdd]
                go_wp2
                first | exact ⟨rfl, Below.refl _ _⟩ | exact ⟨_, rfl, rfl, Below.refl _ _, fun h => by simp at h⟩ | exact ⟨_, rfl, rfl, Below.refl _ _⟩ | exact ⟨rfl, Below.refl _ _, fun h => by simp at h⟩
              · intro u W hb hd
                have e0 : u 1 = .slice (some ⟨g, 0, none⟩) (n + 1) cap2 := hd.1 rfl (by decide)
                have e1 : u 2 = .int .i64 (i : Int) := hd.2.1 rfl (by decide)
                simp only [putAll, Act.put, List.setIfInBounds_toArray, List.set_cons_succ, List.set_cons_zero, Nat.zero_add, Nat.reduceAdd]
                rw [e0, e1]
                go_wp2
                first | exact ⟨rfl, Below.refl _ _⟩ | exact ⟨_, rfl, rfl, Below.refl _ _, fun h => by simp at h⟩ | exact ⟨_, rfl, rfl, Below.refl _ _⟩ | exact ⟨rfl, Below.refl _ _, fun h => by simp at h⟩
              · intro u W hb hd
                have e0 : u 3 = .pointer (some ⟨g, i * 2, none⟩) := hd.1 rfl (by decide)
                obtain ⟨k0, k1⟩ := HX.out W hb
                simp only [putAll, Act.put, List.setIfInBounds_toArray, List.set_cons_succ, List.set_cons_zero, Nat.zero_add, Nat.reduceAdd]
                rw [e0]
                go_wp2
                first | exact ⟨rfl, Below.refl _ _⟩ | exact ⟨_, rfl, rfl, Below.refl _ _, fun h => by simp at h⟩ | exact ⟨_, rfl, rfl, Below.refl _ _⟩ | exact ⟨rfl, Below.refl _ _, fun h => by simp at h⟩
              · intro u W hb hd
                have e0 : u 0 = .int .i64 C := hd.1 rfl (by decide)
                have e1 : u 4 = .agg #[.int .i64 X, .int .i64 Y] := hd.2.1 rfl (by decide)
                simp only [putAll, Act.put, List.setIfInBounds_toArray, List.set_cons_succ, List.set_cons_zero, Nat.zero_add, Nat.reduceAdd]
                rw [e0, e1]
                go_wp2
                first | exact ⟨rfl, Below.refl _ _⟩ | exact ⟨_, rfl, rfl, Below.refl _ _, fun h => by simp at h⟩ | exact ⟨_, rfl, rfl, Below.refl _ _⟩ | exact ⟨rfl, Below.refl _ _, fun h => by simp at h⟩
              · intro u W hb hd
                simp only [putAll, Act.put, List.setIfInBounds_toArray, List.set_cons_succ, List.set_cons_zero, Nat.zero_add, Nat.reduceAdd]
                go_wp2
                first | exact ⟨rfl, Below.refl _ _⟩ | exact ⟨_, rfl, rfl, Below.refl _ _, fun h => by simp at h⟩ | exact ⟨_, rfl, rfl, Below.refl _ _⟩ | exact ⟨rfl, Below.refl _ _, fun h => by simp at h⟩
            · intro u W hb hT _
              have e2 : u 6 = .slice none 0 0 := hT 6 (by decide)
              have e5 : u 5 = .agg #[.int .i64 C, .int .i64 X, .int .i64 Y] := hT 5 (by decide)
              have V7 := Lib.hid (HV6.out.after hb)
              have G7 := Lib.hid (below_step HG6.out hb)
              obtain ⟨c0, c1, c2, q0, q1, q2, s7⟩ := V7.out
              simp only [List.take_succ_cons, List.take_zero, List.drop_succ_cons, List.drop_zero, putAll, Act.put, List.setIfInBounds_toArray, List.set_cons_succ, List.set_cons_zero, Nat.zero_add, Nat.reduceAdd]
              rw [e2, e5]
              clear hb hT e2 e5
              go_wp2
              refine bodyPost_ret (stoks_results (x := .int .i64 C) (y := .int .i64 X) (z := .int .i64 Y) (u := .slice none 0 0) (V7.out.put _ _ _) rfl rfl) rfl ?_
              exact ⟨below_put3 G7.out (Nat.le_refl _) _ _ _, Or.inl ⟨i, C, HF.out, by rw [HXY.out.1, HXY.out.2]⟩⟩
    · obtain rfl : i = n := by omega
      have HF := Lib.hid (HA.out.fine (tokF_end (by rw [HN.out]; exact Nat.le_refl _)))
      obtain ⟨W8, hW8⟩ : ∃ W, wr.alloc (.cells #[.int .i64 0, .string ⟨#[]⟩, .int .u64 0, .int .i64 X, .int .i64 Y] 39) = W := ⟨_, rfl⟩
      have h8 : Below wr.heap.size wr W8 := by rw [← hW8]; exact (Below.refl _ _).alloc (Nat.le_refl _) _
      have CA : Hid (∀ j, j < 5 → W8.cell? ⟨wr.heap.size, j, none⟩ = some ((tkC l (tk0, i)).getD j undef)) := Lib.hid (by unfold tkC; rw [HXY.out.1, HXY.out.2]; exact tok_cells (by rw [← hW8]; simp; rfl) (by rw [← hW8]; simp; rfl) (by rw [← hW8]; simp; rfl) (by rw [← hW8]; simp) (by rw [← hW8]; simp))
      have R8 := Lib.hid (HRW.out.below h8)
      have G8 := Lib.hid (HB4.out.trans (h8.mono HB4.out.size))
      have S8 : Hid (w2.heap.size ≤ W8.heap.size) := Lib.hid (Nat.le_trans HB4.out.size h8.size)
      have HL6 : Hid ((toksV l acc).length ≤ 1000000) := Lib.hid (by rw [toksV_len]; omega)
      clear h8
      go_wp2_with (at_builtin; (refine wp_rowK (T := 33) (t := 39) (sz := 5) rfl _ _ rfl Tryz.underlying33 info_tok rfl (by decide) (by decide) w2.heap.size _ _ rfl R8.out wr.heap.size (tkC l (tk0, i)) rfl rfl CA.out (tkC_one _ _) HL6.out S8.out ?_))
      intro v' w' hr' ho' hob
      have R9 : Hid (RowK 39 5 w' w2.heap.size v' (toksV l (acc ++ [(tk0, i)]))) := Lib.hid (by rw [toksV_more]; exact hr')
      have G9 := Lib.hid (G8.out.trans ho'.bel)
      have V9 := Lib.hid (V2.out.after G9.out)
      obtain ⟨c0, c1, c2, q0, q1, q2, s9⟩ := V9.out
      clear hr' ho' hob R8 G8 CA S8
      go_wp2
      refine bodyPost_ret (stoks_results (x := .int .i64 0) (y := .int .i64 0) (z := .int .i64 0) (u := v') (V9.out.put _ _ _) rfl rfl) rfl ?_
      refine ⟨below_put3 (below_step G2.out G9.out) (Nat.le_refl _) _ _ _, Or.inr ⟨acc, v', HF.out, rfl, ?_⟩⟩
      rw [HN.out]
      refine RowK.weaken (R9.out.kept fun k hk => ?_) (Nat.le_of_lt HVB.out)
      have hkn : k ≠ w.heap.size := fun e => by
        have := (R9.out.lt hk).1
        have := HVB.out
        omega
      rw [sset_else _ _ _ _ _ hkn, sset_else _ _ _ _ _ hkn, sset_else _ _ _ _ _ hkn]

end Go.Proofs.YthfmllgflnideaaGreatDoor
