/-
  Package slots as it landed: a slot read, what it says; Format, Open: walked.
-/
import Derived.Test.YtejelednnacnaaaGreatDoorPkSltD
import Derived.Test.YtejelednnacnaaaGreatDoorPkMixes
import Derived.Test.YtejelednnacnaaaGreatDoorPkWirF
import Derived.Test.YtejelednnacnaaaGreatDoorPkWirJ
import Derived.Test.YtejelednnacnaaaGreatDoorPkCrc
import Derived.Test.YtejelednnacnaaaGreatDoorPkMarkB
import Derived.Laws.MakeOwn
namespace Go.Proofs.YtejelednnacnaaaGreatDoor
open Go.RowKit

/-- Room for so many bytes. -/
theorem made_cap (w : World) (n : Nat) (hn : n ≤ 1000000) : ∃ w', (Instr.makeSlice 22 (.int .i64 0) (.int .i64 (n : Int))).run Tryz.prog w = .ok (.slice (some ⟨w.heap.size, 0, none⟩) 0 n) w' ∧ OwnN w' w.heap.size (.slice (some ⟨w.heap.size, 0, none⟩) 0 n) [] ∧ Below w.heap.size w w' := by
  obtain ⟨i0, hi, hz0, hz1, hz2⟩ := info_parts info_byte
  obtain ⟨w1, hr, hO, hg⟩ := run_make_own (P := Tryz.prog) w w.heap.size 22 5 i0 (.int .u8 0) 1 Tryz.underlying22 hi hz0 hz1 .i64 .i64 n (by rw [hz2]; omega) (by unfold maxLen; omega) (Nat.le_refl _)
  exact ⟨w1, hr, hO, (Below.refl _ _).grown hg (Nat.le_refl _) (fun b hk => by cases hk)⟩

set_option maxRecDepth 100000 in
set_option maxHeartbeats 4000000 in
theorem sread_any (base : Nat) (O : Foot) (r : Nat) (D : Dsk) (f k s : Nat) (w : World) (h : DskIs w base O r D) (on : f + 2 * k ≤ D.n) (hs : s ≤ 1) (dk : D.dark = false) (ws : D.waits = []) (hd : D.deeds ≤ 1000000) :
    Calls Tryz.prog 63 #[.agg #[.pointer (some ⟨r, 0, none⟩), .int .i64 (f : Int), .int .i64 (k : Int)], .int .i64 (s : Int)] w fun e w' => ∃ v, e = .returned (.tuple #[v, .int .i64 0]) ∧ OwnN w' w.heap.size v (regnL ((f + s * k) * D.size) (k * D.size) D.last) ∧ Below w.heap.size w w' := by
  have g1 := below_more (Below.refl w.heap.size w) (.cells #[.pointer (some ⟨r, 0, none⟩), .int .i64 (f : Int), .int .i64 (k : Int)] 108)
  have V1 := Var3.fresh w (.pointer (some ⟨r, 0, none⟩)) (.int .i64 (f : Int)) (.int .i64 (k : Int)) 108 _ rfl
  have d0 := V1.c0
  have d1 := V1.c1
  have d2 := V1.c2
  have n1 := h.ok.n1
  have s1 := h.ok.s1
  have ll := h.ok.ll
  have hsk : s * k ≤ k := by have := Nat.mul_le_mul_right k hs; omega
  have hE : f + (s + 1) * k = f + s * k + k := by rw [Nat.succ_mul]; omega
  have HRD := Lib.hid (fun j (hj : j < k) W (g : Below w.heap.size w W) => wblk_read base O r D (f + s * k + j) W (h.after g) (by omega) dk ws hd)
  have HLN := Lib.hid (fun W (g : Below w.heap.size w W) => slength_any base O r D f k W (h.after g) (by omega))
  have HF0 := Lib.hid (fun W => sfront_any (.pointer (some ⟨r, 0, none⟩)) f k s W (by omega) (by omega) (by omega))
  have HF1 := Lib.hid (fun W => sfront_any (.pointer (some ⟨r, 0, none⟩)) f k (s + 1) W (by omega) (by omega) (by omega))
  obtain ⟨F, hF⟩ : ∃ F, f + s * k = F := ⟨_, rfl⟩
  obtain ⟨S, hS⟩ : ∃ S, D.size = S := ⟨_, rfl⟩
  obtain ⟨L, hL⟩ : ∃ L, D.last = L := ⟨_, rfl⟩
  rw [hF] at HRD HF0 hE
  rw [hE] at HF1
  rw [hF, hL, hS]
  rw [hS, hL] at HRD ll
  rw [hS] at s1 HLN
  have hFb : F ≤ 400 := by omega
  have hkb : k ≤ 400 := by omega
  obtain ⟨E, hEe⟩ : ∃ E, F + k = E := ⟨_, rfl⟩
  rw [hEe] at HF1
  have hs1e : (s : Int) + 1 = ((s + 1 : Nat) : Int) := by omega
  have hmost : Hid (∀ j, j ≤ k → ((L.drop (F * S)).take (j * S)).length ≤ 1000000) := fun j hj => by
    have : j * S ≤ 400 * 512 := Nat.mul_le_mul (by omega) s1
    rw [List.length_take]; omega
  have hstep : Hid (∀ j, (L.drop (F * S)).take (j * S) ++ blkL L S (F + j) = (L.drop (F * S)).take ((j + 1) * S)) := fun j => by
    unfold blkL
    rw [Nat.succ_mul, List.take_add, List.drop_drop, Nat.add_mul]
  have hbl : ∀ j, j < k → (blkL L S (F + j)).length ≤ 512 := fun j _ => by unfold blkL; rw [List.length_take]; omega
  have HBL := Lib.hid hbl
  have hkS : k * S ≤ 1000000 := by
    have : k * S ≤ 400 * 512 := Nat.mul_le_mul (by omega) s1
    omega
  have HMK := Lib.hid (fun W => made_cap W (k * S) hkS)
  obtain ⟨M, hM⟩ : ∃ M, k * S = M := ⟨_, rfl⟩
  have HM := Lib.hid hM
  rw [hM] at HMK HLN
  rw [hM]
  obtain ⟨W0, hW0⟩ : ∃ W, w.alloc (.cells #[.pointer (some ⟨r, 0, none⟩), .int .i64 (f : Int), .int .i64 (k : Int)] 108) = W := ⟨_, rfl⟩
  rw [hW0] at g1 V1 d0 d1 d2
  have G1 := Lib.hid g1
  have HV := Lib.hid V1
  obtain ⟨s1', hs1'⟩ : ∃ x, s + 1 = x := ⟨_, rfl⟩
  rw [hs1'] at HF1 hs1e
  have hs1b : s1' ≤ 2 := by omega
  clear h hF hS hL g1 V1 ll s1 ws dk hd hbl hE hsk hM hkS hs1' on
  go_enter Tryz.func63, Tryz.ntmps63
  go_wp2_with (first
    | (go_at_call 59; (with_reducible refine (HLN.out _ G1.out).mono ?_); rintro e w1 ⟨rfl, h1⟩; have V2 := Lib.hid (HV.out.after h1); have G2 := Lib.hid (below_step G1.out h1); clear h1; obtain ⟨w2, hmk, hown, hb2⟩ := HMK.out w1; have HO2 := Lib.hid hown; have B2 := Lib.hid hb2; have V3 := Lib.hid (V2.out.after hb2); have e0 := V3.out.c0; have e1 := V3.out.c1; have e2 := V3.out.c2; clear hown hb2)
    | (go_at_call 76; (with_reducible refine (HF0.out _).mono ?_); rintro e w3 ⟨rfl, h3⟩; have B3 := Lib.hid (below_step B2.out h3); have V4 := Lib.hid (V3.out.after h3); have HO3 := Lib.hid (show OwnN w3 w1.heap.size _ [] from row_same HO2.out (fun g hg => h3.block g (World.ownsRow.lt HO2.out g hg).2)); clear h3))
  have SZ := Lib.hid (show w.heap.size ≤ w1.heap.size from G2.out.size)
  have SV := Lib.hid (show w.heap.size < w1.heap.size from V2.out.s)
  have HRG := Lib.hid (show ∀ W, Below w1.heap.size w3 W → Below w.heap.size w W from fun W hb => below_step G2.out (B3.out.trans hb))
  have HVV := Lib.hid (show ∀ W, Below w1.heap.size w3 W → Var3 W w.heap.size (.pointer (some ⟨r, 0, none⟩)) (.int .i64 (f : Int)) (.int .i64 (k : Int)) from fun W hb => V2.out.after (B3.out.trans hb))
  have S13 := Lib.hid (show w1.heap.size ≤ w3.heap.size from B3.out.size)
  have HS13 : w1.heap.size ≤ w3.heap.size := S13.out
  clear e0 e1 e2 hmk
  go_loopw [6, 7] (fun v6 v7 wr => ∃ j : Nat, v7 = .int .i64 ((F + j : Nat) : Int) ∧ j ≤ k ∧ OwnN wr w1.heap.size v6 ((L.drop (F * S)).take (j * S)) ∧ Below w1.heap.size w3 wr) (fun _ v7 _ => E - (intOf v7).toNat)
  case atStart => exact ⟨0, rfl, Nat.zero_le _, by rw [Nat.zero_mul, List.take_zero]; exact HO3.out, Below.refl _ _⟩
  case round =>
    obtain ⟨j, rfl, hjk, hO, hB⟩ := hrel
    obtain ⟨a4, c4, rfl⟩ := hO.argB.size
    have HO := Lib.hid hO
    have HB := Lib.hid hB
    have V5 := HVV.out _ hB
    have e0 := V5.c0
    have e1 := V5.c1
    have e2 := V5.c2
    have hm := hmost.out j hjk
    obtain ⟨Y, hY⟩ : ∃ Y, (L.drop (F * S)).take (j * S) = Y := ⟨_, rfl⟩
    rw [hY] at HO hm
    obtain ⟨N, hN⟩ : ∃ N, Y.length = N := ⟨_, rfl⟩
    rw [hY, hN]
    rw [hN] at HO
    have HY := Lib.hid hY
    have HN := Lib.hid hN
    have HM' : Hid (N ≤ 1000000) := (by unfold Hid; omega)
    have HF := Lib.hid (HF1.out wr)
    obtain ⟨i, hi⟩ : ∃ i, F + j = i := ⟨_, rfl⟩
    have HI := Lib.hid hi
    rw [hi]
    have hib : i ≤ 800 := by omega
    by_cases hjl : j < k
    · have hiE : i < E := by omega
      have hw2 : IntKind.i64.wrap ((i : Int) + 1) = ((i + 1 : Nat) : Int) := by rw [IntKind.wrap_i64]; omega
      have HR := Lib.hid (fun W (g : Below w1.heap.size w3 W) => (show Calls Tryz.prog 29 #[.pointer (some ⟨r, 0, none⟩), .int .i64 (i : Int)] W _ by rw [← hi]; exact HRD.out j hjl W (HRG.out W g)))
      have hb9 := Lib.hid (HBL.out j hjl)
      clear hO hB V5 hm hY hN hi
      go_wp2_with (first
        | (go_at_call 76; (with_reducible refine (HF.out).mono ?_); rintro e w4 ⟨rfl, h4⟩; have B4 := Lib.hid (HB.out.trans (h4.mono (Nat.le_trans S13.out HB.out.size))); have HO4 := Lib.hid (show OwnN w4 w1.heap.size (.slice a4 N c4) Y from row_same HO.out (fun g hg => h4.block g (World.ownsRow.lt HO.out g hg).2)); have V6 := Lib.hid (HVV.out _ B4.out); have e0 := V6.out.c0; have e1 := V6.out.c1; have e2 := V6.out.c2; clear h4)
        | (go_at_call 29; (with_reducible refine (HR.out _ B4.out).mono ?_); rintro e w5 ⟨a, c, rfl, hv, hb⟩; have HA := Lib.hid hv; have HO5 := Lib.hid (show OwnN w5 w1.heap.size (.slice a4 N c4) Y from row_same HO4.out (fun g hg => hb.block g (World.ownsRow.lt HO4.out g hg).2)); have B5 := Lib.hid (B4.out.trans (hb.mono (Nat.le_trans S13.out B4.out.size))); have hlen : Hid (Y.length + (blkL L S (F + j)).length ≤ 100000000) := (by have q1 := HM'.out; have q2 := HN.out; have q3 := hb9.out; unfold Hid; omega); have hs2 := Lib.hid (Nat.le_trans S13.out B5.out.size); clear hv hb)
        | (at_builtin; refine wp_joinN rfl _ _ rfl w1.heap.size _ Y rfl HO5.out _ _ rfl HA.out hlen.out hs2.out ?_))
      intro v' w6 hown hb3 _ hs3
      have B6 := Lib.hid (B5.out.trans hb3)
      have HO6 := Lib.hid hown
      clear hown hb3 hs3
      go_wp2
      go_roundw
      case rel => exact ⟨j + 1, by have := HI.out; simp; omega, hjl, by have := HO6.out; rw [← HY.out, hstep.out] at this; exact this, B6.out⟩
      case measure => simp [intOf]; omega
    · obtain rfl : j = k := by omega
      have hiE : i = E := by omega
      have hnl : ¬ i < E := by omega
      clear hO hB V5 hm hY hN hi
      go_wp2_with (go_at_call 76; (with_reducible refine (HF.out).mono ?_); rintro e w4 ⟨rfl, h4⟩; have B4 := Lib.hid (HB.out.trans (h4.mono (Nat.le_trans S13.out HB.out.size))); have HO4 := Lib.hid (show OwnN w4 w1.heap.size (.slice a4 N c4) Y from row_same HO.out (fun g hg => h4.block g (World.ownsRow.lt HO.out g hg).2)); clear h4)
      go_ret2
      refine ⟨_, rfl, ?_, HRG.out _ B4.out⟩
      unfold regnL
      rw [← HM.out, HY.out]
      exact HO4.out.elder SZ.out

/-- A snapshot's value, from its variable. -/
theorem load_snp {W : World} {g : Nat} {x y : Value} (h : Var2 W g x y) : (loadVar 110 ⟨g, 0, none⟩).run Tryz.prog W = .ok (.agg #[x, y]) W := by
  have c0 := h.c0
  have c1 := h.c1
  clear h
  go_simp
theorem snp_results {fn : Func} {p : Tmp} {ty : TypeId} {W : World} {g : Nat} {x y : Value} {tmps : Array Value} (hty : ty = 110) (hr : fn.results = #[.cell p ty]) (h : Var2 W g x y) (hp : tmps.getD p undef = .pointer (some ⟨g, 0, none⟩)) : (results fn tmps).run Tryz.prog W = .ok (.agg #[x, y]) W := by
  subst hty
  have e : (asAddr (Value.pointer (some ⟨g, 0, none⟩))).run Tryz.prog W = .ok ⟨g, 0, none⟩ W := rfl
  have hp' : tmps[p]?.getD undef = .pointer (some ⟨g, 0, none⟩) := by simpa using hp
  simp only [results, hr]
  simp [Sem.run_bind, Result.andThen, hp', e, load_snp h]
theorem Var2.stay {W W1 : World} {p : Nat} {x y : Value} (k : Var2 W p x y) (hb : W1.heap[p]? = W.heap[p]?) (hs : W.heap.size ≤ W1.heap.size) : Var2 W1 p x y := by
  obtain ⟨c0, c1, q0, q1, s⟩ := k
  exact ⟨by rw [World.cell?_of_block hb, c0], by rw [World.cell?_of_block hb, c1], by rw [World.frozen?_of_block hb, q0], by rw [World.frozen?_of_block hb, q1], Nat.lt_of_lt_of_le s hs⟩
theorem Var2.onlyB {r : Nat} {W W1 : World} {p : Nat} {x y : Value} (k : Var2 W p x y) (hb : OnlyB r W W1) (hne : p ≠ r) : Var2 W1 p x y := by
  obtain ⟨c0, c1, q0, q1, s⟩ := k
  exact ⟨by rw [hb.cell s hne, c0], by rw [hb.cell s hne, c1], by rw [hb.frozen s hne, q0], by rw [hb.frozen s hne, q1], Nat.lt_of_lt_of_le s hb.size⟩
/-- What a slot's bytes say, as the program reads them. -/
theorem snap_read (B : List Int) (s : Nat) : ∃ g st, readT 0 0 (some ((openL B).getD [])) = (g, st) ∧ snapL B s = (if g.n = 0 ∨ g.n % 2 ≠ s then (0, []) else (g.n, st.getD [])) ∧
    (g.n ≠ 0 → leftN st ≤ ((openL B).getD []).length ∧ ((openL B).getD []).drop (((openL B).getD []).length - leftN st) = st.getD []) := by
  cases ho : openL B with
  | none =>
    refine ⟨{}, none, by simp [readT, takeT], ?_, fun h => (h rfl).elim⟩
    rw [snap_none s ho, if_pos (Or.inl rfl)]
  | some x =>
    cases ht : takeT 0 0 x with
    | none =>
      refine ⟨{}, none, by simp [readT, ht], ?_, fun h => (h rfl).elim⟩
      simp only [snapL, ho, ht, true_or, if_true]
    | some p =>
      obtain ⟨g, q⟩ := p
      refine ⟨g, some q, by simp [readT, ht], by simp only [snapL, ho, ht, Option.getD_some], fun _ => ?_⟩
      obtain ⟨j, rfl⟩ := takeT_drop ht
      simp only [leftN, Option.getD_some, List.length_drop]
      refine ⟨by omega, ?_⟩
      rcases Nat.lt_or_ge j x.length with hj | hj
      · congr 1
        omega
      · rw [show x.length - (x.length - j) = x.length by omega, List.drop_length, List.drop_eq_nil_of_le hj]
/-- Opened, or nothing. -/
theorem copen_get (v : Value) (B : List Int) (w : World) (env : Env w) (hv : ArgB w v B) (hb : ∀ z ∈ B, 0 ≤ z ∧ z ≤ 255) (hl : B.length ≤ 1000000) :
    Calls Tryz.prog 77 #[v] w fun e w' => ∃ xv c2 c3, e = .returned (.tuple #[xv, .int .i64 c2, .int .i64 c3]) ∧ ArgB w' xv ((openL B).getD []) ∧ (∀ b, xv.ownBlock = some b → w.heap.size ≤ b) ∧ Below w.heap.size w w' :=
  (copen_new v B w env hv hb hl).mono fun e w' ⟨g, h⟩ => by
    rcases h with ⟨h1, h2⟩ | ⟨x, xv, h1, h2, h3, h4⟩
    · exact ⟨_, _, _, h2, by rw [h1]; exact Or.inl ⟨rfl, rfl⟩, fun b hb => by (cases hb), g⟩
    · exact ⟨_, _, _, h2, by rw [h1]; exact h3, h4, g⟩
/-- What a slot says. -/
def GivesSnp (P : Nat × List Int) (w : World) (e : Ending) (w' : World) : Prop := ∃ xv, e = .returned (.agg #[.int .u64 (P.1 : Int), xv]) ∧ ArgB w' xv P.2 ∧ (P.2 ≠ [] → ∀ j, xv.ownBlock = some j → w.heap.size ≤ j) ∧ Below w.heap.size w w'
set_option maxRecDepth 100000 in
set_option maxHeartbeats 8000000 in
theorem ssnap_any (v : Value) (B : List Int) (s : Nat) (w : World) (env : Env w) (hv : ArgB w v B) (hb : ∀ z ∈ B, 0 ≤ z ∧ z ≤ 255) (hl : B.length ≤ 1000000) :
    Calls Tryz.prog 64 #[.int .i64 (s : Int), v] w (GivesSnp (snapL B s) w) := by
  obtain ⟨g, st, hrd, hsn, hdr⟩ := snap_read B s
  rw [hsn]
  have HOP := Lib.hid (fun W (gW : Below w.heap.size w W) => copen_get v B W (env.step gW) (hv.below gW) hb hl)
  have hXb : ∀ z ∈ (openL B).getD [], 0 ≤ z ∧ z ≤ 255 := fun z hz => by
    cases ho : openL B with
    | none => rw [ho] at hz; cases hz
    | some x =>
      rw [ho] at hz
      obtain ⟨_, _, _, h4, _⟩ := open_some ho
      rw [Option.getD_some, h4] at hz
      exact hb z (List.mem_of_mem_drop (List.mem_of_mem_take hz))
  have hXl : ((openL B).getD []).length ≤ 1000000 := by
    cases ho : openL B with
    | none => simp
    | some x => have := open_len ho; rw [Option.getD_some]; omega
  obtain ⟨X, hX⟩ : ∃ X, (openL B).getD [] = X := ⟨_, rfl⟩
  rw [hX] at HOP hXb hXl hrd hdr
  have HNW := Lib.hid (fun W xv (hx : ArgB W xv X) => wnew_any xv X W hx.bytesIs hXb hXl)
  have HNM := Lib.hid (fun hi r W (h : RdrIs W hi r (some X)) => (show Calls Tryz.prog 79 #[.pointer (some ⟨r, 0, none⟩)] W (GivesT hi r (.int .u64 (g.n : Nat)) st W) by have q := rdnum_any hi r (some X) W h; rw [hrd] at q; exact q))
  have HLF := Lib.hid (fun hi r W (h : RdrIs W hi r st) => rdleft_any hi r st W h)
  have HSL := Lib.hid (fun u W => sslot_any g.n u W)
  obtain ⟨n, hn⟩ : ∃ n, g.n = n := ⟨_, rfl⟩
  rw [hn] at HNM hdr HSL ⊢
  obtain ⟨Q, hQ⟩ : ∃ Q, st.getD [] = Q := ⟨_, rfl⟩
  rw [hQ] at hdr ⊢
  obtain ⟨lf, hlf⟩ : ∃ x, leftN st = x := ⟨_, rfl⟩
  rw [hlf] at hdr HLF
  obtain ⟨NX, hNX⟩ : ∃ x, X.length = x := ⟨_, rfl⟩
  have HNX := Lib.hid hNX
  obtain ⟨va, vc, rfl⟩ := hv.size
  obtain ⟨NB, hNB⟩ : ∃ x, B.length = x := ⟨_, rfl⟩
  rw [hNB] at HOP ⊢
  have HDR := Lib.hid hdr
  have G0 := Lib.hid (below_more (Below.refl w.heap.size w) (.cells #[.int .u64 0, .slice none 0 0] 110))
  have V0 := Lib.hid (Var2.fresh w (.int .u64 0) (.slice none 0 0) 110 _ rfl)
  have hXl2 : NX ≤ 1000000 := by omega
  clear hv hb hl env hrd hsn hXb hXl hX hn hQ hlf hNX hNB hdr
  by_cases h0 : n = 0
  · subst h0
    rw [if_pos (Or.inl rfl)]
    have HNM0 := Lib.hid (show ∀ hi r W, RdrIs W hi r (some X) → Calls Tryz.prog 79 #[.pointer (some ⟨r, 0, none⟩)] W (GivesT hi r (.int .u64 0) st W) from HNM.out)
    go_enter Tryz.func64, Tryz.ntmps64
    go_wp2_with (first
      | (go_at_call 77; (with_reducible refine (HOP.out _ G0.out).mono ?_); rintro e w1 ⟨xv, c2, c3, rfl, hx, ho, g1⟩; obtain ⟨xa, xc, hxe⟩ := hx.size; rw [HNX.out] at hxe; subst hxe; have A1 := Lib.hid hx; have O1 := Lib.hid ho; have G1 := Lib.hid (below_step G0.out g1); have V1 := Lib.hid (V0.out.after g1); clear ho g1 hx)
      | (go_at_call 78; (with_reducible refine (HNW.out _ _ A1.out).mono ?_); rintro e w2 ⟨r, hi, rfl, hr, hR, g2⟩; have R2 := Lib.hid hR; have G2 := Lib.hid (below_step G1.out g2); have V2 := Lib.hid (V1.out.after g2); have A2 := Lib.hid (A1.out.below g2); have L2 := Lib.hid hr; have L22 := Lib.hid (Nat.le_trans G1.out.size hr); have Q2 := Lib.hid (Nat.lt_of_lt_of_le V1.out.s hr); clear hR g2 hr)
      | (go_at_call 79; (with_reducible refine (HNM0.out hi r _ R2.out).mono ?_); rintro e w3 ⟨rfl, hR, g3⟩; have R3 := Lib.hid hR; have hbx := below_more (Below.refl w3.heap.size w3) (.cells #[.int .u64 0, .slice none 0 0] 110); have G3 := Lib.hid (G2.out.trans (g3.below L22.out)); have G4 := Lib.hid (below_step G3.out hbx); have V4 := Lib.hid ((V2.out.onlyB g3 (Nat.ne_of_lt Q2.out)).after hbx); have E4 := Lib.hid (Var2.fresh w3 (.int .u64 0) (.slice none 0 0) 110 _ rfl); have R4 := Lib.hid (hR.kept (fun i hi' => hbx.block i (Nat.lt_of_lt_of_le hi' hR.lt.2)) hbx.size); have A3 := Lib.hid (A2.out.stay (fun hne k hk => g3.keep k (Nat.lt_of_lt_of_le (A1.out.lt hne hk) (Nat.le_trans L2.out (Nat.le_of_lt (Nat.lt_of_lt_of_le R2.out.lt.1 R2.out.lt.2)))) (Nat.ne_of_lt (Nat.lt_of_lt_of_le (A1.out.lt hne hk) L2.out)))); have A4 := Lib.hid (A3.out.below hbx); have k0 := V4.out.q0; have k1 := V4.out.q1; have k2 := V4.out.c0; have k3 := V4.out.c1; have x0 := E4.out.c0; have x1 := E4.out.c1; have y0 := E4.out.q0; have y1 := E4.out.q1; clear hR g3 hbx))
    (try simp only [Exit.inBlock, Exit.then])
    refine bodyPost_ret (snp_results rfl rfl (x := .int .u64 0) (y := .slice none 0 0) ?_ rfl) rfl ⟨_, rfl, Or.inl ⟨rfl, rfl⟩, fun h => (h rfl).elim, ?_⟩
    · exact V4.out.put _ _
    · exact below_put2 G4.out (Nat.le_refl _) _ _
  · have hn0 : ¬ (n : Int) = 0 := by omega
    obtain ⟨m2, hm2⟩ : ∃ m, n % 2 = m := ⟨_, rfl⟩
    rw [hm2] at HSL ⊢
    by_cases hs : m2 = s
    · rw [if_neg (by rintro (h | h); exact h0 h; exact h hs)]
      subst hs
      obtain ⟨hd1, hd2⟩ := HDR.out h0
      obtain ⟨p, hp⟩ : ∃ p, NX - lf = p := ⟨_, rfl⟩
      rw [HNX.out] at hd1 hd2
      rw [hp] at hd2
      have hw5 : (NX : Int) - (lf : Int) = (p : Int) := by omega
      have hpX : Hid (p ≤ X.length) := by unfold Hid; rw [HNX.out]; omega
      have hlf : lf ≤ 1000000 := by omega
      have HQ := Lib.hid hd2
      obtain ⟨NQ, hNQ⟩ : ∃ x, Q.length = x := ⟨_, rfl⟩
      have HNQ := Lib.hid hNQ
      clear hNQ
      clear hd2 hp hm2
      go_enter Tryz.func64, Tryz.ntmps64
      go_wp2_with (first
      | (go_at_call 77; (with_reducible refine (HOP.out _ G0.out).mono ?_); rintro e w1 ⟨xv, c2, c3, rfl, hx, ho, g1⟩; obtain ⟨xa, xc, hxe⟩ := hx.size; rw [HNX.out] at hxe; subst hxe; have A1 := Lib.hid hx; have O1 := Lib.hid ho; have G1 := Lib.hid (below_step G0.out g1); have V1 := Lib.hid (V0.out.after g1); clear ho g1 hx)
      | (go_at_call 78; (with_reducible refine (HNW.out _ _ A1.out).mono ?_); rintro e w2 ⟨r, hi, rfl, hr, hR, g2⟩; have R2 := Lib.hid hR; have G2 := Lib.hid (below_step G1.out g2); have V2 := Lib.hid (V1.out.after g2); have A2 := Lib.hid (A1.out.below g2); have L2 := Lib.hid hr; have L22 := Lib.hid (Nat.le_trans G1.out.size hr); have Q2 := Lib.hid (Nat.lt_of_lt_of_le V1.out.s hr); clear hR g2 hr)
      | (go_at_call 79; (with_reducible refine (HNM.out hi r _ R2.out).mono ?_); rintro e w3 ⟨rfl, hR, g3⟩; have R3 := Lib.hid hR; have hbx := below_more (Below.refl w3.heap.size w3) (.cells #[.int .u64 (n : Int), .slice none 0 0] 110); have G3 := Lib.hid (G2.out.trans (g3.below L22.out)); have G4 := Lib.hid (below_step G3.out hbx); have V4 := Lib.hid ((V2.out.onlyB g3 (Nat.ne_of_lt Q2.out)).after hbx); have E4 := Lib.hid (Var2.fresh w3 (.int .u64 (n : Int)) (.slice none 0 0) 110 _ rfl); have R4 := Lib.hid (hR.kept (fun i hi' => hbx.block i (Nat.lt_of_lt_of_le hi' hR.lt.2)) hbx.size); have A3 := Lib.hid (A2.out.stay (fun hne k hk => g3.keep k (Nat.lt_of_lt_of_le (A1.out.lt hne hk) (Nat.le_trans L2.out (Nat.le_of_lt (Nat.lt_of_lt_of_le R2.out.lt.1 R2.out.lt.2)))) (Nat.ne_of_lt (Nat.lt_of_lt_of_le (A1.out.lt hne hk) L2.out)))); have A4 := Lib.hid (A3.out.below hbx); have k0 := V4.out.q0; have k1 := V4.out.q1; have k2 := V4.out.c0; have k3 := V4.out.c1; have x0 := E4.out.c0; have x1 := E4.out.c1; have y0 := E4.out.q0; have y1 := E4.out.q1; have e9 := load_snp E4.out; clear hR g3 hbx)
      | (go_at_call 80; (with_reducible refine (HSL.out _ _).mono ?_); rintro e w5 ⟨rfl, g5⟩; have G5 := Lib.hid (below_step G4.out g5); have V5 := Lib.hid (V4.out.after g5); have k0 := V5.out.q0; have k1 := V5.out.q1; have k2 := V5.out.c0; have k3 := V5.out.c1; have E5 := Lib.hid (E4.out.after g5); have x0 := E5.out.c0; have x1 := E5.out.c1; have y0 := E5.out.q0; have y1 := E5.out.q1; have R5 := Lib.hid (R4.out.kept (fun i hi' => g5.block i (Nat.lt_of_lt_of_le hi' R4.out.lt.2)) g5.size); have A5 := Lib.hid (A4.out.below g5); clear g5)
      | (go_at_call 81; (with_reducible refine (HLF.out hi r _ R5.out).mono ?_); rintro e w6 ⟨rfl, hR, g6⟩; have G6 := Lib.hid (G5.out.trans (g6.below L22.out)); have hne := Nat.ne_of_gt (Nat.lt_of_lt_of_le R3.out.lt.1 R3.out.lt.2); have V6 := Lib.hid (V5.out.onlyB g6 (Nat.ne_of_lt Q2.out)); have k0 := V6.out.q0; have k1 := V6.out.q1; have k2 := V6.out.c0; have k3 := V6.out.c1; have E6 := Lib.hid (E5.out.onlyB g6 hne); have x0 := E6.out.c0; have x1 := E6.out.c1; have y0 := E6.out.q0; have y1 := E6.out.q1; have A6 := Lib.hid (A5.out.stay (fun hne k hk => g6.keep k (A5.out.lt hne hk) (Nat.ne_of_lt (Nat.lt_of_lt_of_le (A1.out.lt hne hk) L2.out)))); obtain ⟨sv, hrun, hsv⟩ := slice_from A6.out p hpX.out; rw [HQ.out] at hsv; obtain ⟨sa, sc, hse⟩ := hsv.size; rw [HNQ.out] at hse; subst hse; have HSV := Lib.hid hsv; have HOB := Lib.hid (slice_from_block A6.out p hpX.out hrun); have s3 := Nat.lt_of_lt_of_le Q2.out (Nat.le_of_lt (Nat.lt_of_lt_of_le R3.out.lt.1 R3.out.lt.2)); have z1 := Nat.ne_of_gt s3; have z2 := Nat.ne_of_lt s3; clear hR g6 hne hsv))
      all_goals (try simp only [Exit.inBlock, Exit.then])
      all_goals
        have hown : Q ≠ [] → ∀ j, (Value.slice sa NQ sc).ownBlock = some j → w.heap.size < j ∧ j < w3.heap.size := fun hne j hj => by
          rw [HOB.out] at hj
          have q1 := O1.out j hj
          have hXne : X ≠ [] := fun e => hne (by rw [← HQ.out, e, List.drop_nil])
          have q2 := A1.out.lt hXne hj
          have q3 := L2.out
          have q4 := R3.out.lt
          simp at q1
          omega
        have hk7 : ∀ j, j ≠ w3.heap.size → j ≠ w.heap.size → (((w6.setCell ⟨w3.heap.size, 1, none⟩ (.slice sa NQ sc)).setCell ⟨w.heap.size, 0, none⟩ (.int .u64 (n : Int))).setCell ⟨w.heap.size, 1, none⟩ (.slice sa NQ sc)).heap[j]? = w6.heap[j]? := fun j h1 h2 => (set_else _ _ _ _ j h2).trans ((set_else _ _ _ _ j h2).trans (set_else _ _ _ _ j h1))
        refine bodyPost_ret (snp_results rfl rfl (x := .int .u64 (n : Int)) (y := .slice sa NQ sc) ?_ rfl) rfl ⟨_, rfl, HSV.out.stay (fun hne j hj => hk7 j (Nat.ne_of_lt (hown hne j hj).2) (Nat.ne_of_gt (hown hne j hj).1)), fun hne j hj => Nat.le_of_lt (hown hne j hj).1, ?_⟩
        · exact (V6.out.stay (set_else w6 _ _ _ _ (Nat.ne_of_lt s3)) (by simp)).put _ _
        · exact below_put2 (G6.out.setCell (p := ⟨w3.heap.size, 1, none⟩) (Nat.le_of_lt s3) _) (Nat.le_refl _) _ _
    · rw [if_pos (Or.inr hs)]
      have hms : ((m2 : Int) != (s : Int)) = true := by rw [bne_iff_ne]; omega
      have hn0b : ((n : Int) == 0) = false := by rw [beq_eq_false_iff_ne]; omega
      clear hm2
      go_enter Tryz.func64, Tryz.ntmps64
      go_wp2_with (first
      | (go_at_call 77; (with_reducible refine (HOP.out _ G0.out).mono ?_); rintro e w1 ⟨xv, c2, c3, rfl, hx, ho, g1⟩; obtain ⟨xa, xc, hxe⟩ := hx.size; rw [HNX.out] at hxe; subst hxe; have A1 := Lib.hid hx; have O1 := Lib.hid ho; have G1 := Lib.hid (below_step G0.out g1); have V1 := Lib.hid (V0.out.after g1); clear ho g1 hx)
      | (go_at_call 78; (with_reducible refine (HNW.out _ _ A1.out).mono ?_); rintro e w2 ⟨r, hi, rfl, hr, hR, g2⟩; have R2 := Lib.hid hR; have G2 := Lib.hid (below_step G1.out g2); have V2 := Lib.hid (V1.out.after g2); have A2 := Lib.hid (A1.out.below g2); have L2 := Lib.hid hr; have L22 := Lib.hid (Nat.le_trans G1.out.size hr); have Q2 := Lib.hid (Nat.lt_of_lt_of_le V1.out.s hr); clear hR g2 hr)
      | (go_at_call 79; (with_reducible refine (HNM.out hi r _ R2.out).mono ?_); rintro e w3 ⟨rfl, hR, g3⟩; have R3 := Lib.hid hR; have hbx := below_more (Below.refl w3.heap.size w3) (.cells #[.int .u64 (n : Int), .slice none 0 0] 110); have G3 := Lib.hid (G2.out.trans (g3.below L22.out)); have G4 := Lib.hid (below_step G3.out hbx); have V4 := Lib.hid ((V2.out.onlyB g3 (Nat.ne_of_lt Q2.out)).after hbx); have E4 := Lib.hid (Var2.fresh w3 (.int .u64 (n : Int)) (.slice none 0 0) 110 _ rfl); have R4 := Lib.hid (hR.kept (fun i hi' => hbx.block i (Nat.lt_of_lt_of_le hi' hR.lt.2)) hbx.size); have A3 := Lib.hid (A2.out.stay (fun hne k hk => g3.keep k (Nat.lt_of_lt_of_le (A1.out.lt hne hk) (Nat.le_trans L2.out (Nat.le_of_lt (Nat.lt_of_lt_of_le R2.out.lt.1 R2.out.lt.2)))) (Nat.ne_of_lt (Nat.lt_of_lt_of_le (A1.out.lt hne hk) L2.out)))); have A4 := Lib.hid (A3.out.below hbx); have k0 := V4.out.q0; have k1 := V4.out.q1; have k2 := V4.out.c0; have k3 := V4.out.c1; have x0 := E4.out.c0; have x1 := E4.out.c1; have y0 := E4.out.q0; have y1 := E4.out.q1; have e9 := load_snp E4.out; clear hR g3 hbx)
      | (go_at_call 80; (with_reducible refine (HSL.out _ _).mono ?_); rintro e w5 ⟨rfl, g5⟩; have G5 := Lib.hid (below_step G4.out g5); have V5 := Lib.hid (V4.out.after g5); have k0 := V5.out.q0; have k1 := V5.out.q1; have k2 := V5.out.c0; have k3 := V5.out.c1; have E5 := Lib.hid (E4.out.after g5); have x0 := E5.out.c0; have x1 := E5.out.c1; have y0 := E5.out.q0; have y1 := E5.out.q1; have R5 := Lib.hid (R4.out.kept (fun i hi' => g5.block i (Nat.lt_of_lt_of_le hi' R4.out.lt.2)) g5.size); have A5 := Lib.hid (A4.out.below g5); clear g5))
      (try simp only [Exit.inBlock, Exit.then])
      refine bodyPost_ret (snp_results rfl rfl (x := .int .u64 0) (y := .slice none 0 0) ?_ rfl) rfl ⟨_, rfl, Or.inl ⟨rfl, rfl⟩, fun h => (h rfl).elim, ?_⟩
      · exact V5.out.put _ _
      · exact below_put2 G5.out (Nat.le_refl _) _ _

end Go.Proofs.YtejelednnacnaaaGreatDoor
