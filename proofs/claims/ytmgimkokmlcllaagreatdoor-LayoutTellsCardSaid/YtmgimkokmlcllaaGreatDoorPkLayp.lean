/-
  Package layout's bareWords; rows that are made whole, and filled place by place: walked.
-/
import Derived.Test.YtmgimkokmlcllaaGreatDoorPkLayn
import Derived.Test.YtmgimkokmlcllaaGreatDoorPkTrem
namespace Go.Proofs.YtmgimkokmlcllaaGreatDoor
open Go.RowKit

theorem made_flat (z : Array Value) (hz : 0 < z.size) (n : Nat) : (madeCells z (n * z.size)).toList = (List.replicate n z.toList).flatten := by
  apply List.ext_getElem?
  intro k
  have hl : (List.replicate n z.toList).flatten.length = n * z.size := by
    rw [flatten_len (sz := z.size) _ (fun u hu => by rw [List.eq_of_mem_replicate hu]; simp), List.length_replicate]
  by_cases hk : k < n * z.size
  · have hi : k / z.size < n := Nat.div_lt_of_lt_mul (by rw [Nat.mul_comm]; exact hk)
    have hj : k % z.size < z.size := Nat.mod_lt _ hz
    have hf := getD_flatten (sz := z.size) (List.replicate n z.toList) (k / z.size) (k % z.size) (fun u hu => by rw [List.eq_of_mem_replicate hu]; simp) (by simpa using hi) hj
    have ek : k / z.size * z.size + k % z.size = k := by rw [Nat.mul_comm]; exact Nat.div_add_mod k z.size
    rw [ek] at hf
    rw [hf]
    have e1 : (List.replicate n z.toList).getD (k / z.size) [] = z.toList := by
      rw [List.getD_eq_getElem?_getD, List.getElem?_replicate, if_pos hi]; rfl
    rw [e1]
    unfold madeCells
    have hk2 : k < (Array.map (fun x => z[x % z.size]!) (Array.range (n * z.size))).toList.length := by simp; exact hk
    rw [List.getElem?_eq_getElem hk2, List.getD_eq_getElem?_getD, List.getElem?_eq_getElem (by simpa using hj)]
    simp [getElem!_pos z (k % z.size) hj]
  · rw [List.getElem?_eq_none (by simp [size_madeCells]; omega), List.getElem?_eq_none (by omega)]
/-- What make gives: a row of zero values. -/
theorem made_rowK {T t : TypeId} {z : Value} {sz bts : Nat} (hT : Tryz.prog.underlying T = some (.slice t)) (hinf : (Tryz.prog.info? t).map (fun i => (i.zero, i.size, i.bytes)) = some (some z, sz, bts)) (hzs : z.cells.size = sz) (hsz : 0 < sz) (hbt : bts ≤ 128) (hone : ∀ u ∈ z.cells.toList, u.oneCell' = true)
    (w : World) (n : Nat) (hn : n ≤ 1000000) : ∃ w', (Instr.makeSlice T (.int .i64 (n : Int)) (.int .i64 (n : Int))).run Tryz.prog w = .ok (.slice (some ⟨w.heap.size, 0, none⟩) n n) w' ∧ RowK t sz w' w.heap.size (.slice (some ⟨w.heap.size, 0, none⟩) n n) (List.replicate n z.cells.toList) ∧ Below w.heap.size w w' ∧ w.heap.size < w'.heap.size := by
  obtain ⟨i0, hi, hz0, hz1, hz2⟩ := info_parts hinf
  have hb : i0.bytes * n ≤ 281474976710656 := by
    have : i0.bytes * n ≤ 128 * 1000000 := Nat.mul_le_mul (by omega) hn
    omega
  obtain ⟨w1, hr, hO, hg⟩ := run_make_full (P := Tryz.prog) w w.heap.size T t i0 z sz hT hi hz0 hz1 .i64 .i64 n hb (by unfold maxLen; omega) (Nat.le_refl _)
  subst hzs
  rw [made_flat z.cells hsz n] at hO
  have hlt := hO.lt w.heap.size rfl
  exact ⟨w1, hr, ⟨by rw [List.length_replicate]; exact hO, fun u hu => by rw [List.eq_of_mem_replicate hu]; simp, fun u hu => by rw [List.eq_of_mem_replicate hu]; exact hone⟩, (Below.refl _ _).grown hg (Nat.le_refl _) (fun b hk => by cases hk), hlt.2⟩
theorem set_here {A : Type} (a : List A) (x y : A) (r : List A) : (a ++ x :: r).set a.length y = a ++ y :: r := by
  rw [List.set_append_right _ _ (Nat.le_refl _), Nat.sub_self, List.set_cons_zero]
theorem getD_here {A : Type} (a : List A) (x d : A) (r : List A) : (a ++ x :: r).getD a.length d = x := by
  rw [List.getD_eq_getElem?_getD, List.getElem?_append_right (Nat.le_refl _), Nat.sub_self]; rfl
/-- A place filled: five cells. -/
theorem RowK.fill5 {t : TypeId} {w : World} {base g n cap i : Nat} {a r : List (List Value)} {x0 x1 x2 x3 x4 : Value} (h : RowK t 5 w base (.slice (some ⟨g, 0, none⟩) n cap) (a ++ [x0, x1, x2, x3, x4] :: r)) (hi : a.length = i) (y0 y1 y2 y3 y4 : Value) (h0 : y0.oneCell' = true) (h1 : y1.oneCell' = true) (h2 : y2.oneCell' = true) (h3 : y3.oneCell' = true) (h4 : y4.oneCell' = true) :
    RowK t 5 (((((w.setCell ⟨g, i * 5, none⟩ y0).setCell ⟨g, i * 5 + 1, none⟩ y1).setCell ⟨g, i * 5 + 2, none⟩ y2).setCell ⟨g, i * 5 + 3, none⟩ y3).setCell ⟨g, i * 5 + 4, none⟩ y4) base (.slice (some ⟨g, 0, none⟩) n cap) (a ++ [y0, y1, y2, y3, y4] :: r) := by
  subst hi
  have s0 := h.set a.length 0 y0 (by simp) (by decide) h0
  rw [getD_here, set_here] at s0
  have s1 := s0.set a.length 1 y1 (by simp) (by decide) h1
  rw [getD_here, set_here] at s1
  have s2 := s1.set a.length 2 y2 (by simp) (by decide) h2
  rw [getD_here, set_here] at s2
  have s3 := s2.set a.length 3 y3 (by simp) (by decide) h3
  rw [getD_here, set_here] at s3
  have s4 := s3.set a.length 4 y4 (by simp) (by decide) h4
  rw [getD_here, set_here] at s4
  exact s4
theorem RowK.fill6 {t : TypeId} {w : World} {base g n cap i : Nat} {a r : List (List Value)} {x0 x1 x2 x3 x4 x5 : Value} (h : RowK t 6 w base (.slice (some ⟨g, 0, none⟩) n cap) (a ++ [x0, x1, x2, x3, x4, x5] :: r)) (hi : a.length = i) (y0 y1 y2 y3 y4 y5 : Value) (h0 : y0.oneCell' = true) (h1 : y1.oneCell' = true) (h2 : y2.oneCell' = true) (h3 : y3.oneCell' = true) (h4 : y4.oneCell' = true) (h5 : y5.oneCell' = true) :
    RowK t 6 ((((((w.setCell ⟨g, i * 6, none⟩ y0).setCell ⟨g, i * 6 + 1, none⟩ y1).setCell ⟨g, i * 6 + 2, none⟩ y2).setCell ⟨g, i * 6 + 3, none⟩ y3).setCell ⟨g, i * 6 + 4, none⟩ y4).setCell ⟨g, i * 6 + 5, none⟩ y5) base (.slice (some ⟨g, 0, none⟩) n cap) (a ++ [y0, y1, y2, y3, y4, y5] :: r) := by
  subst hi
  have s0 := h.set a.length 0 y0 (by simp) (by decide) h0
  rw [getD_here, set_here] at s0
  have s1 := s0.set a.length 1 y1 (by simp) (by decide) h1
  rw [getD_here, set_here] at s1
  have s2 := s1.set a.length 2 y2 (by simp) (by decide) h2
  rw [getD_here, set_here] at s2
  have s3 := s2.set a.length 3 y3 (by simp) (by decide) h3
  rw [getD_here, set_here] at s3
  have s4 := s3.set a.length 4 y4 (by simp) (by decide) h4
  rw [getD_here, set_here] at s4
  have s5 := s4.set a.length 5 y5 (by simp) (by decide) h5
  rw [getD_here, set_here] at s5
  exact s5
theorem RowK.cellsAt {t : TypeId} {sz : Nat} {w : World} {base g n cap : Nat} {a r : List (List Value)} {x : List Value} (h : RowK t sz w base (.slice (some ⟨g, 0, none⟩) n cap) (a ++ x :: r)) (j : Nat) (hj : j < sz) : w.cell? ⟨g, a.length * sz + j, none⟩ = some (x.getD j undef) := by
  have := h.at a.length j (by simp) hj
  rw [getD_here] at this
  exact this

/-- A token's zero value, by cells. -/
def tkZ : List Value := [.int .i64 0, .string ⟨#[]⟩, .int .u64 0, .int .i64 0, .int .i64 0]
theorem bare_take {l : List Tk3} {i : Nat} (h : i < l.length) : ((l.take (i + 1)).map Tk3.bare).map tkV = ((l.take i).map Tk3.bare).map tkV ++ [tkV (l.getD i {}).bare] := by
  have e : l.take (i + 1) = l.take i ++ [l.getD i {}] := by
    rw [List.take_add_one, List.getD_eq_getElem?_getD, List.getElem?_eq_getElem h]; rfl
  rw [e, List.map_append, List.map_append]; rfl
set_option maxRecDepth 100000 in
set_option maxHeartbeats 8000000 in
theorem lbarewords_any (S : Nat → Prop) (v : Value) (l : List Tk3) (w : World) (h : WordsIs w S v l) (hl : l.length ≤ 1000000) :
    Calls Tryz.prog 35 #[v] w fun e w' => ∃ v' S', e = .returned v' ∧ WordsIs w' S' v' (l.map Tk3.bare) ∧ (∀ b, S' b → w.heap.size ≤ b ∧ b < w'.heap.size) ∧ Below w.heap.size w w' := by
  obtain ⟨n, hn⟩ : ∃ n, l.length = n := ⟨_, rfl⟩
  obtain ⟨a1, c1, rfl⟩ := h.size
  have HW := Lib.hid h
  have HN := Lib.hid hn
  rw [hn] at hl ⊢
  obtain ⟨w1, hmk, hrow, hb1, hlt1⟩ := made_rowK (T := 49) (t := 59) (sz := 5) Tryz.underlying49 info_tok rfl (by decide) (by decide) (by decide) w n hl
  have HR := Lib.hid hrow
  have HB := Lib.hid hb1
  have HLT := Lib.hid hlt1
  clear h hn hrow hb1 hlt1
  go_enter Tryz.func35, Tryz.ntmps35
  go_wp2
  go_loopw [11] (fun v11 wr => ∃ i : Nat, i ≤ n ∧ v11 = .int .i64 (i : Int) ∧ RowK 59 5 wr w.heap.size (.slice (some ⟨w.heap.size, 0, none⟩) n n) (((l.take i).map Tk3.bare).map tkV ++ List.replicate (n - i) tkZ) ∧ Below w.heap.size w wr ∧ w.heap.size < wr.heap.size) (fun v11 _ => n - (intOf v11).toNat)
  case atStart => exact ⟨0, Nat.zero_le _, rfl, (by rw [List.take_zero]; exact HR.out), HB.out, HLT.out⟩
  case round =>
    obtain ⟨i, hi, rfl, hrow, hb, hlt⟩ := hrel
    have HRO := Lib.hid hrow
    have HBR := Lib.hid hb
    have HLR := Lib.hid hlt
    by_cases hin : i < n
    · obtain ⟨a', cap', he, hc, hcell⟩ := HW.out.below hb
      injection he with e1 e2 e3
      subst e1
      obtain ⟨b1, o1, rfl, s1, p0, p1, p2, p3, p4⟩ := hcell i (by rw [HN.out]; exact hin)
      have hnx := bare_take (l := l) (i := i) (by rw [HN.out]; exact hin)
      have hpl : (((l.take i).map Tk3.bare).map tkV).length = i := by
        have := HN.out
        simp; omega
      have hrep : List.replicate (n - i) tkZ = tkZ :: List.replicate (n - (i + 1)) tkZ := by
        have : n - i = (n - (i + 1)) + 1 := by omega
        rw [this, List.replicate_succ]
      have hi1 : IntKind.i64.wrap ((i : Int) + 1) = ((i + 1 : Nat) : Int) := by rw [IntKind.wrap_i64]; omega
      obtain ⟨t, ht⟩ : ∃ t, l.getD i {} = t := ⟨_, rfl⟩
      rw [ht] at p0 p1 p2 p3 p4 hnx
      obtain ⟨W2, W3, hW2, hW3, v2, v3, g3⟩ := fresh5 wr (.int .i64 t.k) (.string t.s) (.int .u64 t.n) (.int .i64 t.a) (.int .i64 t.b)
      rw [hrep] at hrow
      have HST : Hid (∀ w6, Below W3.heap.size W3 w6 → RowK 59 5 w6 w.heap.size (.slice (some ⟨w.heap.size, 0, none⟩) n n) (((l.take i).map Tk3.bare).map tkV ++ tkZ :: List.replicate (n - (i + 1)) tkZ) ∧ Below w.heap.size w w6 ∧ w.heap.size < w6.heap.size) := Lib.hid (fun w6 g6 => by
        have g36 := g3.trans (g6.mono g3.size)
        exact ⟨hrow.below g36, hb.trans (g36.mono hb.size), Nat.lt_of_lt_of_le hlt g36.size⟩)
      have HNX := Lib.hid hnx
      have HPL := Lib.hid hpl
      have HBW := Lib.hid (lbareword_any t W3)
      obtain ⟨q1, hq1⟩ : ∃ q, wr.heap.size = q := ⟨_, rfl⟩
      rw [hq1] at v2 hW3 v3
      obtain ⟨y0, y1, y2, y3, y4, yq, ys⟩ := v2
      obtain ⟨t10, t11, t12, t13, t14, _, _⟩ := v3
      have z0 := yq 0
      have z1 := yq 1
      have z2 := yq 2
      have z3 := yq 3
      have z4 := yq 4
      unfold put5 at hW3
      simp only [tkAgg, Tk3.bare] at HBW
      clear hcell e2 e3 hc hnx hpl hrep ht hrow hb hlt g3 s1 yq ys
      go_wp2_with (go_at_call 58; (with_reducible refine (HBW.out).mono ?_); rintro e w6 ⟨rfl, g6⟩; obtain ⟨r6, b6, l6⟩ := HST.out w6 g6; have R6 := Lib.hid r6; have B6 := Lib.hid b6; have L6 := Lib.hid l6; have k0 := r6.cellsAt 0 (by decide); have k1 := r6.cellsAt 1 (by decide); have k2 := r6.cellsAt 2 (by decide); have k3 := r6.cellsAt 3 (by decide); have k4 := r6.cellsAt 4 (by decide); rw [HPL.out] at k0 k1 k2 k3 k4; simp only [tkZ, List.getD_cons_zero, List.getD_cons_succ, Nat.add_zero] at k0 k1 k2 k3 k4; have f0 := r6.free (i * 5); have f1 := r6.free (i * 5 + 1); have f2 := r6.free (i * 5 + 2); have f3 := r6.free (i * 5 + 3); have f4 := r6.free (i * 5 + 4); clear g6 r6 b6 l6)
      have hfill := R6.out.fill5 HPL.out (.int .i64 t.k) (.string t.s) (.int .u64 t.n) (.int .i64 0) (.int .i64 0) rfl rfl rfl rfl rfl
      have hbf := (((((B6.out.setCell (p := ⟨w.heap.size, i * 5, none⟩) (Nat.le_refl _) (.int .i64 t.k)).setCell (p := ⟨w.heap.size, i * 5 + 1, none⟩) (Nat.le_refl _) (.string t.s)).setCell (p := ⟨w.heap.size, i * 5 + 2, none⟩) (Nat.le_refl _) (.int .u64 t.n)).setCell (p := ⟨w.heap.size, i * 5 + 3, none⟩) (Nat.le_refl _) (.int .i64 0)).setCell (p := ⟨w.heap.size, i * 5 + 4, none⟩) (Nat.le_refl _) (.int .i64 0))
      go_roundw
      case rel => exact ⟨i + 1, by omega, by go_num, by rw [HNX.out, List.append_assoc]; exact hfill, hbf, by simpa using L6.out⟩
      case measure => simp [intOf]; omega
    · have en : n = i := by omega
      subst en
      have hall : ((l.take n).map Tk3.bare).map tkV ++ List.replicate (n - n) tkZ = (l.map Tk3.bare).map tkV := by
        rw [← HN.out, List.take_length]; simp
      rw [hall] at hrow
      have HF := Lib.hid (hrow.words (S := fun b => b = w.heap.size) (fun b e => by injection e with e; exact e.symm))
      clear hrow hb hlt hall
      go_wp2
      go_ret
      exact ⟨_, _, rfl, HF.out, fun b e => by subst e; exact ⟨Nat.le_refl _, HLR.out⟩, HBR.out⟩

end Go.Proofs.YtmgimkokmlcllaaGreatDoor

/-
  Package layout's Bare: walked.
-/
namespace Go.Proofs.YtmgimkokmlcllaaGreatDoor
open Go.RowKit

/-- New words, bare. -/
def NewW (W : World) (lo : Nat) (v : Value) (l : List Tk3) : Prop := ∃ S : Nat → Prop, WordsIs W S v l ∧ ∀ b, S b → lo ≤ b ∧ b < W.heap.size
/-- New items. -/
def NewK (D : Nat) (W : World) (lo : Nat) (v : Value) (L : List It) : Prop := ∃ S : Nat → Prop, ItemsIs D W S v L ∧ ∀ b, S b → lo ≤ b ∧ b < W.heap.size
theorem NewW.below {W W' : World} {lo : Nat} {v : Value} {l : List Tk3} (h : NewW W lo v l) (hb : Below W.heap.size W W') : NewW W' lo v l := by
  obtain ⟨S, h1, h2⟩ := h
  exact ⟨S, h1.below hb, fun b hs => ⟨(h2 b hs).1, Nat.lt_of_lt_of_le (h2 b hs).2 hb.size⟩⟩
theorem NewK.below {D : Nat} {W W' : World} {lo : Nat} {v : Value} {L : List It} (h : NewK D W lo v L) (hb : Below W.heap.size W W') : NewK D W' lo v L := by
  obtain ⟨S, h1, h2⟩ := h
  exact ⟨S, h1.belowS (fun b hs => (h2 b hs).2) hb, fun b hs => ⟨(h2 b hs).1, Nat.lt_of_lt_of_le (h2 b hs).2 hb.size⟩⟩
theorem NewW.slice {W : World} {lo : Nat} {v : Value} {l : List Tk3} (h : NewW W lo v l) : ∃ a n c, v = .slice a n c := by
  obtain ⟨S, h1, _⟩ := h
  obtain ⟨a, c, e⟩ := h1.size
  exact ⟨a, _, c, e⟩
theorem NewK.slice {D : Nat} {W : World} {lo : Nat} {v : Value} {L : List It} (h : NewK D W lo v L) : ∃ a n c, v = .slice a n c := by
  obtain ⟨S, h1, _⟩ := h
  obtain ⟨a, c, e⟩ := h1.size
  exact ⟨a, _, c, e⟩
/-- An item's zero value, by cells. -/
def itZ : List Value := [.string ⟨#[]⟩, .slice none 0 0, .bool false, .slice none 0 0, .int .i64 0, .int .i64 0]
theorem bare_items_take {L : List It} {i : Nat} (h : i < L.length) : bareL (L.take (i + 1)) = bareL (L.take i) ++ [.mk (L.getD i default).name ((L.getD i default).words.map Tk3.bare) (L.getD i default).block (bareL (L.getD i default).kids) 0 0] := by
  rw [tk_take h, bareL_app]
  congr 1
  obtain ⟨n, w, k, kids, a, b⟩ := L.getD i default
  simp [bareL, It.name, It.words, It.block, It.kids]
theorem LightL.at : ∀ {L : List It} (_ : LightL L) (i : Nat), i < L.length → LightX (L.getD i default) ∧ LightL (L.getD i default).kids
  | [], _, i, hi => by cases hi
  | .mk n w k kids a b :: L, h, i, hi => by
    rw [LightL] at h
    cases i with
    | zero => exact ⟨h.1, h.2.1⟩
    | succ i => exact LightL.at h.2.2 i (by simpa using hi)
/-- What each operation gives. -/
def TBR (D : Nat) (lo : Nat) (g q n : Nat) (i : Nat) (nm : ByteArray) (wd : List Tk3) (bk : Bool) (kd : List It) (wa ka : Option Addr) (wl wc kl kc : Nat) (k : Nat) (v : Value) (W : World) : Prop :=
  (k = 0 → v = .slice (some ⟨g, 0, none⟩) n n) ∧ (k = 1 → v = .int .i64 (i : Int)) ∧ (k = 2 → v = .pointer (some ⟨q, 0, none⟩)) ∧ (k = 3 → v = .string nm) ∧ (k = 4 → v = .pointer (some ⟨q, 1, none⟩)) ∧ (k = 5 → v = .slice wa wl wc) ∧ (k = 6 → NewW W lo v (wd.map Tk3.bare)) ∧
  (k = 7 → v = .pointer (some ⟨q, 2, none⟩)) ∧ (k = 8 → v = .bool bk) ∧ (k = 9 → v = .pointer (some ⟨q, 3, none⟩)) ∧ (k = 10 → v = .slice ka kl kc) ∧ (k = 11 → NewK D W lo v (bareL kd)) ∧
  (k = 12 → ∃ wv kv, v = .agg #[.string nm, wv, .bool bk, kv, .int .i64 0, .int .i64 0] ∧ NewW W lo wv (wd.map Tk3.bare) ∧ NewK D W lo kv (bareL kd))
theorem TBR.keep {D lo g q n i : Nat} {nm : ByteArray} {wd : List Tk3} {bk : Bool} {kd : List It} {wa ka : Option Addr} {wl wc kl kc : Nat} (k : Nat) (v : Value) (W W' : World) (h : TBR D lo g q n i nm wd bk kd wa ka wl wc kl kc k v W) (hb : Below W.heap.size W W') : TBR D lo g q n i nm wd bk kd wa ka wl wc kl kc k v W' := by
  obtain ⟨h0, h1, h2, h3, h4, h5, h6, h7, h8, h9, h10, h11, h12⟩ := h
  refine ⟨h0, h1, h2, h3, h4, h5, fun e => (h6 e).below hb, h7, h8, h9, h10, fun e => (h11 e).below hb, fun e => ?_⟩
  obtain ⟨wv, kv, e1, e2, e3⟩ := h12 e
  exact ⟨wv, kv, e1, e2.below hb, e3.below hb⟩
/-- What Bare is asked for. -/
def BareAt (D : Nat) : Prop := ∀ (S : Nat → Prop) (v : Value) (L : List It) (w : World), ItemsIs D w S v L → (∀ b, S b → b < w.heap.size) → cntL L ≤ 1000000 → LightL L →
  Calls Tryz.prog 20 #[v] w fun e w' => ∃ v', e = .returned v' ∧ NewK D w' w.heap.size v' (bareL L) ∧ Below w.heap.size w w'
/-- So many items are made. -/
structure BrI (D : Nat) (w : World) (n : Nat) (L : List It) (i : Nat) (wr : World) : Prop where
  ex : ∃ ps : List ItV, ps.length = i ∧ RowK 51 6 wr w.heap.size (.slice (some ⟨w.heap.size, 0, none⟩) n n) (ps.map ItV.cells ++ List.replicate (n - i) itZ) ∧ ps.map ItV.x = bareL (L.take i) ∧ ∀ p ∈ ps, NewW wr (w.heap.size + 1) p.wv p.x.words ∧ NewK D wr (w.heap.size + 1) p.kv p.x.kids
  bel : Below w.heap.size w wr
  lt : w.heap.size < wr.heap.size
theorem BrI.done {D n : Nat} {w : World} {L : List It} {wr : World} (h : BrI D w n L n wr) (hn : L.length = n) : NewK (D + 1) wr w.heap.size (.slice (some ⟨w.heap.size, 0, none⟩) n n) (bareL L) := by
  obtain ⟨⟨ps, hl, hrow, hx, hp⟩, hb, hlt⟩ := h
  rw [Nat.sub_self, List.replicate_zero, List.append_nil] at hrow
  have hall : ps.map ItV.x = bareL L := by rw [hx, ← hn, List.take_length]
  refine ⟨fun b => (w.heap.size + 1 ≤ b ∧ b < wr.heap.size) ∨ b = w.heap.size, ?_, fun b hs => by rcases hs with hs | hs <;> omega⟩
  have hli : ListIs D wr (fun b => w.heap.size + 1 ≤ b ∧ b < wr.heap.size) w.heap.size (.slice (some ⟨w.heap.size, 0, none⟩) n n) ps := by
    refine ⟨hrow, fun p hm => ?_, fun p hm => ?_, fun b e hs => ?_⟩
    · obtain ⟨S, q1, q2⟩ := (hp p hm).1
      exact q1.keep q2 (fun _ _ => rfl)
    · obtain ⟨S, q1, q2⟩ := (hp p hm).2
      exact q1.keep q2 (fun _ _ => rfl)
    · have e2 : w.heap.size = b := by injection e
      omega
  rw [← hall]
  exact hli.items (fun b h => Or.inl h) (fun b e => Or.inr (by injection e with e; exact e.symm))

set_option maxRecDepth 100000 in
set_option maxHeartbeats 16000000 in
theorem lbare_any : ∀ D, BareAt D := by
  intro D
  induction D with
  | zero =>
    intro S v L w h hS hc hl
    obtain ⟨rfl, a, cap, rfl⟩ := h
    obtain ⟨w1, hmk, hrow, hb1, hlt1⟩ := made_rowK (T := 22) (t := 51) (sz := 6) Tryz.underlying22 info_item rfl (by decide) (by decide) (by decide) w 0 (by decide)
    have HB := Lib.hid hb1
    have hmk0 : (Instr.makeSlice 22 (.int .i64 0) (.int .i64 0)).run Tryz.prog w = .ok (.slice (some ⟨w.heap.size, 0, none⟩) 0 0) w1 := hmk
    clear hrow hb1 hlt1 hmk hS hc hl
    go_enter Tryz.func20, Tryz.ntmps20
    go_wp2
    go_loopw [11] (fun v11 wr => v11 = .int .i64 0 ∧ wr = w1) (fun _ _ => 0)
    case atStart => exact ⟨rfl, rfl⟩
    case round =>
      obtain ⟨rfl, rfl⟩ := hrel
      go_wp2
      go_ret
      exact ⟨_, rfl, ⟨fun _ => False, ⟨by simp [bareL], _, _, rfl⟩, fun b h => h.elim⟩, HB.out⟩
  | succ D ih =>
    intro S v L w h hS hc hl
    obtain ⟨n, hn⟩ : ∃ n, L.length = n := ⟨_, rfl⟩
    obtain ⟨a1, c1, rfl⟩ := h.size
    have HH := Lib.hid h
    have HN := Lib.hid hn
    have HS := Lib.hid hS
    have HC := Lib.hid hc
    have HL := Lib.hid hl
    have HIH := Lib.hid ih
    have hln : n ≤ 1000000 := by have := len_cnt L; omega
    rw [hn]
    obtain ⟨w1, hmk, hrow, hb1, hlt1⟩ := made_rowK (T := 22) (t := 51) (sz := 6) Tryz.underlying22 info_item rfl (by decide) (by decide) (by decide) w n hln
    have HI0 : Hid (BrI D w n L 0 w1) := Lib.hid ⟨⟨[], rfl, hrow, by simp [bareL], fun p hp => by cases hp⟩, hb1, hlt1⟩
    clear h hn hS hc hl ih hrow hb1 hlt1
    go_enter Tryz.func20, Tryz.ntmps20
    go_wp2
    go_loopw [11] (fun v11 wr => ∃ i : Nat, i ≤ n ∧ v11 = .int .i64 (i : Int) ∧ BrI D w n L i wr) (fun v11 _ => n - (intOf v11).toNat)
    case atStart => exact ⟨0, Nat.zero_le _, rfl, HI0.out⟩
    case round =>
      obtain ⟨i, hi, rfl, hbr⟩ := hrel
      by_cases hin : i < n
      · obtain ⟨⟨ps, hpl, hrow, hpx, hps⟩, hb, hlt⟩ := hbr
        obtain ⟨d1, hd1, b1, o1, wv, kv, rfl, s1, e0, e1, e2, e3, e4, e5, hw, hk⟩ := HH.out.at i (by rw [HN.out]; exact hin)
        obtain rfl : D = d1 := by omega
        have hlt1 := HS.out b1 s1
        have f0 := (hb.cell (p := ⟨b1, o1 + i * 6, none⟩) hlt1).trans e0
        have f1 := (hb.cell (p := ⟨b1, o1 + i * 6 + 1, none⟩) hlt1).trans e1
        have f2 := (hb.cell (p := ⟨b1, o1 + i * 6 + 2, none⟩) hlt1).trans e2
        have f3 := (hb.cell (p := ⟨b1, o1 + i * 6 + 3, none⟩) hlt1).trans e3
        have f4 := (hb.cell (p := ⟨b1, o1 + i * 6 + 4, none⟩) hlt1).trans e4
        have f5 := (hb.cell (p := ⟨b1, o1 + i * 6 + 5, none⟩) hlt1).trans e5
        have hck := cntK_mono L (i := i + 1) (j := n) (by omega)
        rw [← HN.out, cntK_all, cntK] at hck
        have hcc := HC.out
        have hli := HL.out.at i (by rw [HN.out]; exact hin)
        have hnx := bare_items_take (L := L) (i := i) (by rw [HN.out]; exact hin)
        have hrep : List.replicate (n - i) itZ = itZ :: List.replicate (n - (i + 1)) itZ := by
          have : n - i = (n - (i + 1)) + 1 := by omega
          rw [this, List.replicate_succ]
        rw [hrep] at hrow
        have hi1 : IntKind.i64.wrap ((i : Int) + 1) = ((i + 1 : Nat) : Int) := by rw [IntKind.wrap_i64]; omega
        have HBK : Hid (∀ W, Below w.heap.size w W → Calls Tryz.prog 20 #[kv] W fun e w' => ∃ v', e = .returned v' ∧ NewK D w' W.heap.size v' (bareL (L.getD i default).kids) ∧ Below W.heap.size W w') := Lib.hid (fun W hbW =>
          HIH.out S kv _ W (hk.belowS HS.out hbW) (fun b h => Nat.lt_of_lt_of_le (HS.out b h) hbW.size) (by omega) hli.2)
        have HBW : Hid (∀ W, Below w.heap.size w W → Calls Tryz.prog 35 #[wv] W fun e w' => ∃ v' S', e = .returned v' ∧ WordsIs w' S' v' ((L.getD i default).words.map Tk3.bare) ∧ (∀ b, S' b → W.heap.size ≤ b ∧ b < w'.heap.size) ∧ Below W.heap.size W w') := Lib.hid (fun W hbW =>
          lbarewords_any S wv _ W (hw.below hbW) (by have := hli.1.2.1; omega))
        obtain ⟨⟨nm, wd, bk, kd, pa, pb⟩, hp⟩ : ∃ p, L.getD i default = p := ⟨_, rfl⟩
        rw [hp] at f0 f2 f4 f5 HBK HBW hnx
        simp only [It.name, It.block, It.a, It.b, It.kids, It.words] at f0 f2 f4 f5 HBK HBW hnx
        obtain ⟨wa, wl, wc, hwv⟩ : ∃ a l c, wv = Value.slice a l c := by obtain ⟨a, c, h⟩ := hw.size; exact ⟨_, _, _, h⟩
        obtain ⟨ka, kl, kc, hkv⟩ : ∃ a l c, kv = Value.slice a l c := by obtain ⟨a, c, h⟩ := hk.size; exact ⟨_, _, _, h⟩
        subst hwv hkv
        obtain ⟨W2, W3, hW2, hW3, v2, v3, g3⟩ := fresh6 wr (.string nm) (.slice wa wl wc) (.bool bk) (.slice ka kl kc) (.int .i64 pa) (.int .i64 pb)
        have b3 := hb.trans (g3.mono hb.size)
        have HB3 := Lib.hid b3
        have hs3 := g3.size
        have HLO : Hid (w.heap.size + 1 ≤ W3.heap.size) := Lib.hid (by omega)
        obtain ⟨q, hq⟩ : ∃ q, wr.heap.size = q := ⟨_, rfl⟩
        have HST : Hid (∀ W, Below W3.heap.size W3 W → BrI D w n L i W ∧ RowK 51 6 W w.heap.size (.slice (some ⟨w.heap.size, 0, none⟩) n n) (ps.map ItV.cells ++ itZ :: List.replicate (n - (i + 1)) itZ) ∧ ∀ p ∈ ps, NewW W (w.heap.size + 1) p.wv p.x.words ∧ NewK D W (w.heap.size + 1) p.kv p.x.kids) := Lib.hid (fun W g => by
          have g36 := g3.trans (g.mono hs3)
          exact ⟨⟨⟨ps, hpl, by rw [hrep]; exact hrow.below g36, hpx, fun p hm => ⟨(hps p hm).1.below g36, (hps p hm).2.below g36⟩⟩, hb.trans (g36.mono hb.size), Nat.lt_of_lt_of_le hlt g36.size⟩, hrow.below g36, fun p hm => ⟨(hps p hm).1.below g36, (hps p hm).2.below g36⟩⟩)
        have HNX := Lib.hid hnx
        have HPX := Lib.hid hpx
        have HPL := Lib.hid hpl
        have hpcl : (ps.map ItV.cells).length = i := by rw [List.length_map]; exact hpl
        have HPCL := Lib.hid hpcl
        rw [hq] at v2 hW3 v3
        have HV3 := Lib.hid v3
        obtain ⟨y0, y1, y2, y3, y4, y5, yq, ys⟩ := v2
        have z0 := yq 0
        have z1 := yq 1
        have z2 := yq 2
        have z3 := yq 3
        have z4 := yq 4
        have z5 := yq 5
        unfold put6 at hW3
        clear e0 e1 e2 e3 e4 e5 hlt1 hck hcc hli hnx hrep hrow hps hpl hpx hb hlt hd1 s1 hw hk g3 b3 hs3 yq ys hp v3 hpcl
        go_wp2
        clear y0 y1 y2 y3 y4 y5 z0 z1 z2 z3 z4 z5 f0 f1 f2 f3 f4 f5 hW2 hW3 hmk
        refine wp_region_mix 13 (TBR D (w.heap.size + 1) w.heap.size q n i nm wd bk kd wa ka wl wc kl kc) (fun _ => false) (by kernel_rfl) (by kernel_rfl) TBR.keep (fun _ _ _ h => by cases h) ?_ ?_
        · simp only [List.take_succ_cons, List.take_zero]
          refine (StepsAll.cons ?_ (StepsAll.cons ?_ (StepsAll.cons ?_ (StepsAll.cons ?_ (StepsAll.cons ?_ (StepsAll.cons ?_ (StepsAll.cons ?_ (StepsAll.cons ?_ (StepsAll.cons ?_ (StepsAll.cons ?_ (StepsAll.cons ?_ (StepsAll.cons ?_ (StepsAll.cons ?_ StepsAll.nil)))))))))))))
          · intro u W hbW hd
            simp only [putAll, Act.put, List.setIfInBounds_toArray, List.set_cons_succ, List.set_cons_zero, Nat.zero_add, Nat.reduceAdd]
            go_wp2
            exact ⟨⟨fun _ => rfl, fun h => (by cases h), fun h => (by cases h), fun h => (by cases h), fun h => (by cases h), fun h => (by cases h), fun h => (by cases h), fun h => (by cases h), fun h => (by cases h), fun h => (by cases h), fun h => (by cases h), fun h => (by cases h), fun h => (by cases h)⟩, Below.refl _ _⟩
          · intro u W hbW hd
            simp only [putAll, Act.put, List.setIfInBounds_toArray, List.set_cons_succ, List.set_cons_zero, Nat.zero_add, Nat.reduceAdd]
            go_wp2
            exact ⟨⟨fun h => (by cases h), fun _ => rfl, fun h => (by cases h), fun h => (by cases h), fun h => (by cases h), fun h => (by cases h), fun h => (by cases h), fun h => (by cases h), fun h => (by cases h), fun h => (by cases h), fun h => (by cases h), fun h => (by cases h), fun h => (by cases h)⟩, Below.refl _ _⟩
          · intro u W hbW hd
            simp only [putAll, Act.put, List.setIfInBounds_toArray, List.set_cons_succ, List.set_cons_zero, Nat.zero_add, Nat.reduceAdd]
            go_wp2
            exact ⟨⟨fun h => (by cases h), fun h => (by cases h), fun _ => rfl, fun h => (by cases h), fun h => (by cases h), fun h => (by cases h), fun h => (by cases h), fun h => (by cases h), fun h => (by cases h), fun h => (by cases h), fun h => (by cases h), fun h => (by cases h), fun h => (by cases h)⟩, Below.refl _ _⟩
          · intro u W hbW hd
            obtain ⟨c0, c1, c2, c3, _, _, _, _⟩ := HV3.out.after hbW
            have e2 : u 2 = .pointer (some ⟨q, 0, none⟩) := (hd.1 rfl (by decide)).2.2.1 rfl
            simp only [putAll, Act.put, List.setIfInBounds_toArray, List.set_cons_succ, List.set_cons_zero, Nat.zero_add, Nat.reduceAdd]
            rw [e2]
            go_wp2
            exact ⟨⟨fun h => (by cases h), fun h => (by cases h), fun h => (by cases h), fun _ => rfl, fun h => (by cases h), fun h => (by cases h), fun h => (by cases h), fun h => (by cases h), fun h => (by cases h), fun h => (by cases h), fun h => (by cases h), fun h => (by cases h), fun h => (by cases h)⟩, Below.refl _ _⟩
          · intro u W hbW hd
            simp only [putAll, Act.put, List.setIfInBounds_toArray, List.set_cons_succ, List.set_cons_zero, Nat.zero_add, Nat.reduceAdd]
            go_wp2
            exact ⟨⟨fun h => (by cases h), fun h => (by cases h), fun h => (by cases h), fun h => (by cases h), fun _ => rfl, fun h => (by cases h), fun h => (by cases h), fun h => (by cases h), fun h => (by cases h), fun h => (by cases h), fun h => (by cases h), fun h => (by cases h), fun h => (by cases h)⟩, Below.refl _ _⟩
          · intro u W hbW hd
            obtain ⟨c0, c1, c2, c3, _, _, _, _⟩ := HV3.out.after hbW
            have e4 : u 4 = .pointer (some ⟨q, 1, none⟩) := (hd.1 rfl (by decide)).2.2.2.2.1 rfl
            simp only [putAll, Act.put, List.setIfInBounds_toArray, List.set_cons_succ, List.set_cons_zero, Nat.zero_add, Nat.reduceAdd]
            rw [e4]
            go_wp2
            exact ⟨⟨fun h => (by cases h), fun h => (by cases h), fun h => (by cases h), fun h => (by cases h), fun h => (by cases h), fun _ => rfl, fun h => (by cases h), fun h => (by cases h), fun h => (by cases h), fun h => (by cases h), fun h => (by cases h), fun h => (by cases h), fun h => (by cases h)⟩, Below.refl _ _⟩
          · intro u W hbW hd
            have e5 : u 5 = .slice wa wl wc := (hd.1 rfl (by decide)).2.2.2.2.2.1 rfl
            simp only [putAll, Act.put, List.setIfInBounds_toArray, List.set_cons_succ, List.set_cons_zero, Nat.zero_add, Nat.reduceAdd]
            rw [e5]
            go_wp2_with (go_at_call 35; (with_reducible refine (HBW.out _ (below_step HB3.out hbW)).mono ?_); rintro e w5 ⟨v5, S5, rfl, h5, s5, g5⟩)
            exact ⟨_, rfl, ⟨fun h => (by cases h), fun h => (by cases h), fun h => (by cases h), fun h => (by cases h), fun h => (by cases h), fun h => (by cases h), fun _ => ⟨S5, h5, fun b hb => ⟨by have := (s5 b hb).1; have := hbW.size; have := HLO.out; omega, (s5 b hb).2⟩⟩, fun h => (by cases h), fun h => (by cases h), fun h => (by cases h), fun h => (by cases h), fun h => (by cases h), fun h => (by cases h)⟩, g5, fun h => (by cases h)⟩
          · intro u W hbW hd
            simp only [putAll, Act.put, List.setIfInBounds_toArray, List.set_cons_succ, List.set_cons_zero, Nat.zero_add, Nat.reduceAdd]
            go_wp2
            exact ⟨⟨fun h => (by cases h), fun h => (by cases h), fun h => (by cases h), fun h => (by cases h), fun h => (by cases h), fun h => (by cases h), fun h => (by cases h), fun _ => rfl, fun h => (by cases h), fun h => (by cases h), fun h => (by cases h), fun h => (by cases h), fun h => (by cases h)⟩, Below.refl _ _⟩
          · intro u W hbW hd
            obtain ⟨c0, c1, c2, c3, _, _, _, _⟩ := HV3.out.after hbW
            have e7 : u 7 = .pointer (some ⟨q, 2, none⟩) := (hd.1 rfl (by decide)).2.2.2.2.2.2.2.1 rfl
            simp only [putAll, Act.put, List.setIfInBounds_toArray, List.set_cons_succ, List.set_cons_zero, Nat.zero_add, Nat.reduceAdd]
            rw [e7]
            go_wp2
            exact ⟨⟨fun h => (by cases h), fun h => (by cases h), fun h => (by cases h), fun h => (by cases h), fun h => (by cases h), fun h => (by cases h), fun h => (by cases h), fun h => (by cases h), fun _ => rfl, fun h => (by cases h), fun h => (by cases h), fun h => (by cases h), fun h => (by cases h)⟩, Below.refl _ _⟩
          · intro u W hbW hd
            simp only [putAll, Act.put, List.setIfInBounds_toArray, List.set_cons_succ, List.set_cons_zero, Nat.zero_add, Nat.reduceAdd]
            go_wp2
            exact ⟨⟨fun h => (by cases h), fun h => (by cases h), fun h => (by cases h), fun h => (by cases h), fun h => (by cases h), fun h => (by cases h), fun h => (by cases h), fun h => (by cases h), fun h => (by cases h), fun _ => rfl, fun h => (by cases h), fun h => (by cases h), fun h => (by cases h)⟩, Below.refl _ _⟩
          · intro u W hbW hd
            obtain ⟨c0, c1, c2, c3, _, _, _, _⟩ := HV3.out.after hbW
            have e9 : u 9 = .pointer (some ⟨q, 3, none⟩) := (hd.1 rfl (by decide)).2.2.2.2.2.2.2.2.2.1 rfl
            simp only [putAll, Act.put, List.setIfInBounds_toArray, List.set_cons_succ, List.set_cons_zero, Nat.zero_add, Nat.reduceAdd]
            rw [e9]
            go_wp2
            exact ⟨⟨fun h => (by cases h), fun h => (by cases h), fun h => (by cases h), fun h => (by cases h), fun h => (by cases h), fun h => (by cases h), fun h => (by cases h), fun h => (by cases h), fun h => (by cases h), fun h => (by cases h), fun _ => rfl, fun h => (by cases h), fun h => (by cases h)⟩, Below.refl _ _⟩
          · intro u W hbW hd
            have e10 : u 10 = .slice ka kl kc := (hd.1 rfl (by decide)).2.2.2.2.2.2.2.2.2.2.1 rfl
            simp only [putAll, Act.put, List.setIfInBounds_toArray, List.set_cons_succ, List.set_cons_zero, Nat.zero_add, Nat.reduceAdd]
            rw [e10]
            go_wp2_with (go_at_call 20; (with_reducible refine (HBK.out _ (below_step HB3.out hbW)).mono ?_); rintro e w5 ⟨v5, rfl, ⟨S5, h5, s5⟩, g5⟩)
            exact ⟨_, rfl, ⟨fun h => (by cases h), fun h => (by cases h), fun h => (by cases h), fun h => (by cases h), fun h => (by cases h), fun h => (by cases h), fun h => (by cases h), fun h => (by cases h), fun h => (by cases h), fun h => (by cases h), fun h => (by cases h), fun _ => ⟨S5, h5, fun b hb => ⟨by have := (s5 b hb).1; have := hbW.size; have := HLO.out; omega, (s5 b hb).2⟩⟩, fun h => (by cases h)⟩, g5, fun h => (by cases h)⟩
          · intro u W hbW hd
            have e3 : u 3 = .string nm := (hd.1 rfl (by decide)).2.2.2.1 rfl
            have t6 := (hd.2.1 rfl (by decide)).2.2.2.2.2.2.1 rfl
            have e8 : u 8 = .bool bk := (hd.2.2.1 rfl (by decide)).2.2.2.2.2.2.2.2.1 rfl
            have t11 := (hd.2.2.2.1 rfl (by decide)).2.2.2.2.2.2.2.2.2.2.2.1 rfl
            obtain ⟨xa, xl, xc, e6⟩ := t6.slice
            obtain ⟨ma, ml, mc, e11⟩ := t11.slice
            rw [e6] at t6
            rw [e11] at t11
            simp only [putAll, Act.put, List.setIfInBounds_toArray, List.set_cons_succ, List.set_cons_zero, Nat.zero_add, Nat.reduceAdd]
            rw [e3, e6, e8, e11]
            go_wp2
            exact ⟨⟨fun h => (by cases h), fun h => (by cases h), fun h => (by cases h), fun h => (by cases h), fun h => (by cases h), fun h => (by cases h), fun h => (by cases h), fun h => (by cases h), fun h => (by cases h), fun h => (by cases h), fun h => (by cases h), fun h => (by cases h), fun _ => ⟨_, _, rfl, t6, t11⟩⟩, Below.refl _ _⟩
        · intro u W hbW hT _
          obtain ⟨e0, e1⟩ : u 0 = .slice (some ⟨w.heap.size, 0, none⟩) n n ∧ u 1 = .int .i64 (i : Int) := ⟨(hT 0 (by decide)).1 rfl, (hT 1 (by decide)).2.1 rfl⟩
          obtain ⟨wv, kv, e12, tw, tk⟩ := (hT 12 (by decide)).2.2.2.2.2.2.2.2.2.2.2.2 rfl
          obtain ⟨hbi, hrw, hpsW⟩ := HST.out W hbW
          obtain ⟨xa, xl, xc, rfl⟩ := tw.slice
          obtain ⟨ma, ml, mc, rfl⟩ := tk.slice
          have HBI := Lib.hid hbi
          have HRW := Lib.hid hrw
          have HPW := Lib.hid hpsW
          have HTW := Lib.hid tw
          have HTK := Lib.hid tk
          have k0 := hrw.cellsAt 0 (by decide)
          have k1 := hrw.cellsAt 1 (by decide)
          have k2 := hrw.cellsAt 2 (by decide)
          have k3 := hrw.cellsAt 3 (by decide)
          have k4 := hrw.cellsAt 4 (by decide)
          have k5 := hrw.cellsAt 5 (by decide)
          rw [HPCL.out] at k0 k1 k2 k3 k4 k5
          simp only [itZ, List.getD_cons_zero, List.getD_cons_succ, Nat.add_zero] at k0 k1 k2 k3 k4 k5
          have f0 := hrw.free (i * 6)
          have f1 := hrw.free (i * 6 + 1)
          have f2 := hrw.free (i * 6 + 2)
          have f3 := hrw.free (i * 6 + 3)
          have f4 := hrw.free (i * 6 + 4)
          have f5 := hrw.free (i * 6 + 5)
          clear hbW hT tw tk hbi hrw hpsW
          simp only [List.take_succ_cons, List.take_zero, List.drop_succ_cons, List.drop_zero, putAll, Act.put, List.setIfInBounds_toArray, List.set_cons_succ, List.set_cons_zero, Nat.zero_add, Nat.reduceAdd]
          rw [e0, e1, e12]
          clear e0 e1 e12
          go_wp2
          go_roundw
          case rel =>
            have hfill := HRW.out.fill6 HPCL.out (.string nm) (.slice xa xl xc) (.bool bk) (.slice ma ml mc) (.int .i64 0) (.int .i64 0) rfl rfl rfl rfl rfl rfl
            have hbf := ((((((HBI.out.bel.setCell (p := ⟨w.heap.size, i * 6, none⟩) (Nat.le_refl _) (.string nm)).setCell (p := ⟨w.heap.size, i * 6 + 1, none⟩) (Nat.le_refl _) (.slice xa xl xc)).setCell (p := ⟨w.heap.size, i * 6 + 2, none⟩) (Nat.le_refl _) (.bool bk)).setCell (p := ⟨w.heap.size, i * 6 + 3, none⟩) (Nat.le_refl _) (.slice ma ml mc)).setCell (p := ⟨w.heap.size, i * 6 + 4, none⟩) (Nat.le_refl _) (.int .i64 0)).setCell (p := ⟨w.heap.size, i * 6 + 5, none⟩) (Nat.le_refl _) (.int .i64 0))
            have hsame : ∀ b, w.heap.size + 1 ≤ b → ((((((W.setCell ⟨w.heap.size, i * 6, none⟩ (.string nm)).setCell ⟨w.heap.size, i * 6 + 1, none⟩ (.slice xa xl xc)).setCell ⟨w.heap.size, i * 6 + 2, none⟩ (.bool bk)).setCell ⟨w.heap.size, i * 6 + 3, none⟩ (.slice ma ml mc)).setCell ⟨w.heap.size, i * 6 + 4, none⟩ (.int .i64 0)).setCell ⟨w.heap.size, i * 6 + 5, none⟩ (.int .i64 0)).heap[b]? = W.heap[b]? := fun b hb => by
              rw [sset_else _ _ _ _ _ (by omega), sset_else _ _ _ _ _ (by omega), sset_else _ _ _ _ _ (by omega), sset_else _ _ _ _ _ (by omega), sset_else _ _ _ _ _ (by omega), sset_else _ _ _ _ _ (by omega)]
            have hsz : ((((((W.setCell ⟨w.heap.size, i * 6, none⟩ (.string nm)).setCell ⟨w.heap.size, i * 6 + 1, none⟩ (.slice xa xl xc)).setCell ⟨w.heap.size, i * 6 + 2, none⟩ (.bool bk)).setCell ⟨w.heap.size, i * 6 + 3, none⟩ (.slice ma ml mc)).setCell ⟨w.heap.size, i * 6 + 4, none⟩ (.int .i64 0)).setCell ⟨w.heap.size, i * 6 + 5, none⟩ (.int .i64 0)).heap.size = W.heap.size := by simp
            have mvW : ∀ {v : Value} {l : List Tk3}, NewW W (w.heap.size + 1) v l → NewW _ (w.heap.size + 1) v l := fun {v l} ⟨S, q1, q2⟩ => ⟨S, q1.keep (fun _ h => h) (fun b hb => hsame b (q2 b hb).1), fun b hb => ⟨(q2 b hb).1, by rw [hsz]; exact (q2 b hb).2⟩⟩
            have mvK : ∀ {v : Value} {l : List It}, NewK D W (w.heap.size + 1) v l → NewK D _ (w.heap.size + 1) v l := fun {v l} ⟨S, q1, q2⟩ => ⟨S, q1.keep (fun _ h => h) (fun b hb => hsame b (q2 b hb).1), fun b hb => ⟨(q2 b hb).1, by rw [hsz]; exact (q2 b hb).2⟩⟩
            refine ⟨i + 1, by omega, by go_num, ⟨ps ++ [⟨.mk nm (wd.map Tk3.bare) bk (bareL kd) 0 0, .slice xa xl xc, .slice ma ml mc⟩], by rw [List.length_append, HPL.out]; rfl, ?_, by rw [HNX.out, List.map_append, HPX.out]; rfl, fun p hm => ?_⟩, hbf, by rw [hsz]; exact HBI.out.lt⟩
            · rw [List.map_append, List.append_assoc]; exact hfill
            · rcases List.mem_append.mp hm with hm | hm
              · exact ⟨mvW (HPW.out p hm).1, mvK (HPW.out p hm).2⟩
              · rw [List.mem_singleton.mp hm]
                exact ⟨mvW HTW.out, mvK HTK.out⟩
          case measure => simp [intOf]; omega
      · have en : n = i := by omega
        subst en
        have HD := Lib.hid (hbr.done HN.out)
        have HBB := Lib.hid hbr.bel
        clear hbr
        go_wp2
        go_ret
        exact ⟨_, rfl, HD.out, HBB.out⟩

end Go.Proofs.YtmgimkokmlcllaaGreatDoor
