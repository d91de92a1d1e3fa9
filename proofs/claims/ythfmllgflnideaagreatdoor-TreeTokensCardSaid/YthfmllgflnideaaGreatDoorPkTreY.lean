/-
  TreeTokens, walked.
-/
import Derived.Test.YthfmllgflnideaaGreatDoorPkTreX
namespace Go.Proofs.YthfmllgflnideaaGreatDoor
open Go.RowKit

theorem trF_err : ∀ (T : List Tk3) (st : List (Hd × List It)) (n : Nat) (o : Option Hd) (c a b : Int), trF T st n o = .error (c, a, b) → c ≠ 0
  | [], _, _, _, c, a, b, h => by rw [trF] at h; cases h
  | t :: T, st, n, some hd, c, a, b, h => by
    rw [trF] at h
    split at h
    · exact trF_err T _ _ _ c a b h
    split at h
    · exact trF_err T _ _ _ c a b h
    split at h
    · injection h with h; injection h with h _; omega
    split at h
    · injection h with h; injection h with h _; omega
    · exact trF_err T _ _ _ c a b h
  | t :: T, st, n, none, c, a, b, h => by
    rw [trF] at h
    split at h
    · exact trF_err T _ _ _ c a b h
    split at h
    · cases h
    split at h
    · injection h with h; injection h with h _; omega
    split at h
    · injection h with h; injection h with h _; omega
    split at h
    · injection h with h; injection h with h _; omega
    · exact trF_err T _ _ _ c a b h
theorem treF_err {l : List Int} {c a b : Int} (h : treF l = .error (c, a, b)) : c ≠ 0 := by
  cases ht : tokF l 0 with
  | error x =>
    obtain ⟨k, c2⟩ := x
    rw [treF_bad ht] at h
    injection h with h
    injection h with h _
    rw [← h]
    exact tokF_err l.length 0 k c2 (by omega) ht
  | ok L =>
    rw [treF_fine ht] at h
    exact trF_err _ _ _ _ _ _ _ h
theorem treR_err {s : ByteArray} {c a b : Int} (h : treR s = .error (c, a, b)) : c ≠ 0 := by
  unfold treR at h
  split at h
  · exact treF_err h
  · injection h with h; injection h with h _; omega
theorem norm_low {t : Tk3} (h : t.k < 7) : t.norm = t := by unfold Tk3.norm; rw [if_pos (by omega)]
theorem norm_high {t : Tk3} (h : ¬ t.k < 7) : t.norm = { t with a := 0, b := 0 } := by unfold Tk3.norm; rw [if_neg (by omega)]

set_option maxRecDepth 100000 in
set_option maxHeartbeats 8000000 in
theorem tretoks_long (s : ByteArray) (w : World) (env : Env w) (hm : 5000 < s.size) : Calls Tryz.prog 4 #[.string s] w fun e w' => e = .returned (.bool true) ∧ Below w.heap.size w w' := by
  have HA := Lib.hid (tre_awake w env)
  have k1 : (5000 : Int) < (s.size : Int) := by omega
  clear hm env
  go_enter Tryz.func4, Tryz.ntmps4
  go_wp2_with (go_at_call 5; (with_reducible refine (HA.out).mono ?_); rintro e w1 ⟨rfl, g1⟩; have G1 := Lib.hid g1; clear g1)
  go_ret
  exact ⟨rfl, G1.out⟩
set_option maxRecDepth 100000 in
set_option maxHeartbeats 8000000 in
theorem tretoks_bad (s : ByteArray) (w : World) (env : Env w) (hm : s.size ≤ 5000) (c a b : Int) (hr : treR s = .error (c, a, b)) : Calls Tryz.prog 4 #[.string s] w fun e w' => e = .returned (.bool true) ∧ Below w.heap.size w w' := by
  have HA := Lib.hid (tre_awake w env)
  have k1 : ¬ (5000 : Int) < (s.size : Int) := by omega
  have hc : (c != 0) = true := by simpa using treR_err hr
  have HP : Hid (∀ W, Below w.heap.size w W → Calls Tryz.prog 6 #[.string s] W fun e w' => e = .returned (.tuple #[.slice none 0 0, .agg #[.int .i64 c, .int .i64 a, .int .i64 b]]) ∧ Below W.heap.size W w') := Lib.hid (fun W hW => (parse_any s W (env.step hW)).mono (by
    rintro e w' ⟨hb, h | h⟩
    · obtain ⟨c2, a2, b2, h2, rfl⟩ := h
      rw [hr] at h2
      injection h2 with h2
      injection h2 with h3 h4
      injection h4 with h4 h5
      subst h3 h4 h5
      exact ⟨rfl, hb⟩
    · obtain ⟨L, v, h2, _⟩ := h
      rw [hr] at h2; cases h2))
  clear hm env hr
  go_enter Tryz.func4, Tryz.ntmps4
  go_wp2_with (first
    | (go_at_call 5; (with_reducible refine (HA.out).mono ?_); rintro e w1 ⟨rfl, g1⟩; have G1 := Lib.hid g1; clear g1)
    | (go_at_call 6; (with_reducible refine (HP.out _ G1.out).mono ?_); rintro e w2 ⟨rfl, g2⟩; have G2 := Lib.hid (below_step G1.out g2); obtain ⟨f2, U2, U3, fm2⟩ := fault_var w2 c a b; have hf2 := fm2.g0; have ha2 := fm2.a2; have hs2 := fm2.s3; have c0 := fm2.v2.c0; have c1 := fm2.v2.c1; have c2 := fm2.v2.c2; have q0 := fm2.v2.q0; have q1 := fm2.v2.q1; have q2 := fm2.v2.q2; have d0 := fm2.v3.c0; have d1 := fm2.v3.c1; have d2 := fm2.v3.c2; have G3 := Lib.hid (below_step G2.out fm2.bel); clear g2 fm2))
  go_ret
  exact ⟨rfl, G3.out⟩

set_option maxRecDepth 100000 in
set_option maxHeartbeats 16000000 in
theorem tretoks_fine (s : ByteArray) (w : World) (env : Env w) (hm : s.size ≤ 5000) (I : List It) (hr : treR s = .ok I) : Calls Tryz.prog 4 #[.string s] w fun e w' => e = .returned (.bool true) ∧ Below w.heap.size w w' := by
  have HA := Lib.hid (tre_awake w env)
  have k1 : ¬ (5000 : Int) < (s.size : Int) := by omega
  obtain ⟨l, hl⟩ : ∃ l, runesOf (nums s) = l := ⟨_, rfl⟩
  have hlen := runes_le (nums s)
  rw [nums_length, hl] at hlen
  have htf : treF l = .ok I := by
    have e : treR s = treF (runesOf (nums s)) := if_pos (by omega)
    rw [← hl, ← e]; exact hr
  obtain ⟨L, hL, _⟩ := treF_toks htf
  have hall := tre_all htf hL
  have hfew := tokF_few l.length 0 L (by omega) hL
  have HP : Hid (∀ W, Below w.heap.size w W → Calls Tryz.prog 6 #[.string s] W fun e w' => ∃ v, e = .returned (.tuple #[v, .agg #[.int .i64 0, .int .i64 0, .int .i64 0]]) ∧ ItemsIs 5 w' (fun b => W.heap.size ≤ b ∧ b < w'.heap.size) v I ∧ Below W.heap.size W w') := Lib.hid (fun W hW => (parse_any s W (env.step hW)).mono (by
    rintro e w' ⟨hb, h | h⟩
    · obtain ⟨c2, a2, b2, h2, _⟩ := h
      rw [hr] at h2; cases h2
    · obtain ⟨L2, v, h2, rfl, hi⟩ := h
      rw [hr] at h2
      injection h2 with h2
      subst h2
      exact ⟨v, rfl, hi, hb⟩))
  obtain ⟨T, hT⟩ : ∃ T, L.map (tk3 l) = T := ⟨_, rfl⟩
  have HTK : Hid (∀ W, Calls Tryz.prog 9 #[.string s] W fun e w' => ∃ v, e = .returned (.tuple #[v, .agg #[.int .i64 0, .int .i64 0, .int .i64 0]]) ∧ RowK 39 5 w' W.heap.size v ((T ++ [tk3 l (tk0, l.length)]).map tkV) ∧ Below W.heap.size W w') := Lib.hid (fun W => (stokens_any s W (by omega)).mono (by
    rw [hl]
    rintro e w' ⟨hb, h | h⟩
    · obtain ⟨k2, c2, h2, _⟩ := h
      rw [hL] at h2; cases h2
    · obtain ⟨L2, v, h2, rfl, hrow⟩ := h
      rw [hL] at h2
      injection h2 with h2
      subst h2
      rw [toksV_end, hT] at hrow
      exact ⟨v, rfl, hrow, hb⟩))
  rw [hT] at hall
  have hTl : T.length = L.length := by rw [← hT, List.length_map]
  have HTL : Hid (T.length ≤ 5000) := Lib.hid (by omega)
  have hIl : (toksL I).length = T.length := by rw [← hall, List.length_map]
  have HIL := Lib.hid hIl
  have HALL := Lib.hid hall
  clear hm env hr hl hlen htf hL hfew hT hTl hall hIl
  go_enter Tryz.func4, Tryz.ntmps4
  go_wp2_with (first
    | (go_at_call 5; (with_reducible refine (HA.out).mono ?_); rintro e w1 ⟨rfl, g1⟩; have G1 := Lib.hid g1; clear g1)
    | (go_at_call 6; (with_reducible refine (HP.out _ G1.out).mono ?_); rintro e w2 ⟨v2, rfl, hi2, g2⟩; have G2 := Lib.hid (below_step G1.out g2); obtain ⟨f2, U2, U3, fm2⟩ := fault_var w2 0 0 0; have hf2 := fm2.g0; have ha2 := fm2.a2; have hs2 := fm2.s3; have c0 := fm2.v2.c0; have c1 := fm2.v2.c1; have c2 := fm2.v2.c2; have q0 := fm2.v2.q0; have q1 := fm2.v2.q1; have q2 := fm2.v2.q2; have d0 := fm2.v3.c0; have d1 := fm2.v3.c1; have d2 := fm2.v3.c2; have G3 := Lib.hid (below_step G2.out fm2.bel); have HI3 := Lib.hid (ItemsIs.keep (w' := U3) hi2 (fun _ h => h) (fun b hb => fm2.bel.block b hb.2)); have HI3S : Hid (∀ b, (w1.heap.size ≤ b ∧ b < w2.heap.size) → b < U3.heap.size) := Lib.hid (fun b hb => Nat.lt_of_lt_of_le hb.2 fm2.bel.size); clear g2 fm2 hi2)
    | (go_at_call 9; (with_reducible refine (HTK.out _).mono ?_); rintro e w4 ⟨v4, rfl, r4, g4⟩; have G4 := Lib.hid (below_step G3.out g4); clear hf2 ha2 hs2 c0 c1 c2 q0 q1 q2 d0 d1 d2; obtain ⟨f4, U5, U6, fm4⟩ := fault_var w4 0 0 0; have hf4 := fm4.g0; have ha4 := fm4.a2; have hs4 := fm4.s3; have e0 := fm4.v2.c0; have e1 := fm4.v2.c1; have e2 := fm4.v2.c2; have p0 := fm4.v2.q0; have p1 := fm4.v2.q1; have p2 := fm4.v2.q2; have G6 := Lib.hid (below_step G4.out fm4.bel); have R6 := Lib.hid (r4.below fm4.bel); have HI6 := Lib.hid (ItemsIs.keep (w' := U6) HI3.out (fun _ h => h) (fun b hb => (below_step g4 fm4.bel).block b (HI3S.out b hb))); have HI6S : Hid (∀ b, (w1.heap.size ≤ b ∧ b < w2.heap.size) → b < U6.heap.size) := Lib.hid (fun b hb => Nat.lt_of_lt_of_le (HI3S.out b hb) (below_step g4 fm4.bel).size); have HTC := Lib.hid (toks_any 5 _ _ I U6 HI6.out HI6S.out (by have := HIL.out; have := HTL.out; omega)); clear r4 g4 fm4)
    | (go_at_call 10; (with_reducible refine (HTC.out).mono ?_)))
  rintro e w7 ⟨v7, rfl, r7, g7⟩
  have R7 := Lib.hid r7
  have R8 := Lib.hid (R6.out.below g7)
  have G7 := Lib.hid (below_step G6.out g7)
  obtain ⟨a7, c7, hv7⟩ := r7.size
  subst hv7
  obtain ⟨a8, c8, hv8⟩ := R8.out.size
  subst hv8
  have HS7 : Hid (((toksL I).map tkV).length = T.length) := Lib.hid (by rw [List.length_map]; exact HIL.out)
  have HS8 : Hid (((T ++ [tk3 l (tk0, l.length)]).map tkV).length = T.length + 1) := Lib.hid (by rw [List.length_map, List.length_append]; rfl)
  have HR7 : Hid (RowK 39 5 w7 U6.heap.size (.slice a7 T.length c7) ((toksL I).map tkV)) := Lib.hid (by rw [← HS7.out]; exact R7.out)
  have HR8 : Hid (RowK 39 5 w7 _ (.slice a8 (T.length + 1) c8) ((T ++ [tk3 l (tk0, l.length)]).map tkV)) := Lib.hid (by rw [← HS8.out]; exact R8.out)
  rw [HS7.out, HS8.out]
  obtain ⟨n, hn⟩ : ∃ n, T.length = n := ⟨_, rfl⟩
  have HN := Lib.hid hn
  rw [hn] at HR7 HR8 ⊢
  have hn5 : n ≤ 5000 := by have := HTL.out; omega
  clear r7 g7 hf4 ha4 hs4 e0 e1 e2 p0 p1 p2 hn HS7 HS8 R7 R8 R6
  have hi1 : IntKind.i64.wrap (((n + 1 : Nat) : Int) - 1) = (n : Int) := by rw [IntKind.wrap_i64]; omega
  go_wp2
  go_loopw [8] (fun v8 wr => ∃ i : Nat, i ≤ n ∧ v8 = .int .i64 (i : Int) ∧ ∃ q, wr = w7.drewN q) (fun v8 _ => n - (intOf v8).toNat)
  case atStart => exact ⟨0, Nat.zero_le _, rfl, 0, rfl⟩
  case round =>
    obtain ⟨i, hi, rfl, q, rfl⟩ := hrel
    by_cases hin : i < n
    · have hiT : i < T.length := by rw [HN.out]; exact hin
      have hiI : i < ((toksL I).map tkV).length := by rw [List.length_map, HIL.out]; exact hiT
      have hiE : i < ((T ++ [tk3 l (tk0, l.length)]).map tkV).length := by rw [List.length_map, List.length_append]; omega
      obtain ⟨t, ht⟩ : ∃ t, T.getD i {} = t := ⟨_, rfl⟩
      have e1 : ((toksL I).map tkV).getD i [] = tkV t.norm := by
        rw [← HALL.out, List.map_map, List.getD_eq_getElem?_getD, List.getElem?_map, List.getElem?_eq_getElem hiT, ← ht, List.getD_eq_getElem?_getD, List.getElem?_eq_getElem hiT]; rfl
      have e2 : ((T ++ [tk3 l (tk0, l.length)]).map tkV).getD i [] = tkV t := by
        rw [List.getD_eq_getElem?_getD, List.getElem?_map, List.getElem?_append_left hiT, List.getElem?_eq_getElem hiT, ← ht, List.getD_eq_getElem?_getD, List.getElem?_eq_getElem hiT]; rfl
      have h7 := HR7.out
      have h8 := HR8.out
      obtain ⟨b7, k7, hv7, _⟩ := h7.form (by omega)
      obtain ⟨b8, k8, hv8, _⟩ := h8.form (by omega)
      simp only [Value.slice.injEq] at hv7 hv8
      obtain ⟨rfl, hq7, rfl⟩ := hv7
      obtain ⟨rfl, hq8, rfl⟩ := hv8
      have x0 := h7.at i 0 hiI (by decide)
      have x1 := h7.at i 1 hiI (by decide)
      have x2 := h7.at i 2 hiI (by decide)
      have x3 := h7.at i 3 hiI (by decide)
      have x4 := h7.at i 4 hiI (by decide)
      have y0 := h8.at i 0 hiE (by decide)
      have y1 := h8.at i 1 hiE (by decide)
      have y2 := h8.at i 2 hiE (by decide)
      have y3 := h8.at i 3 hiE (by decide)
      have y4 := h8.at i 4 hiE (by decide)
      rw [e1] at x0 x1 x2 x3 x4
      rw [e2] at y0 y1 y2 y3 y4
      have hi2 : IntKind.i64.wrap ((i : Int) + 1) = ((i + 1 : Nat) : Int) := by rw [IntKind.wrap_i64]; omega
      have hin1 : i < n + 1 := by omega
      clear e1 e2 h7 h8 hiT hiI hiE ht hq7 hq8
      obtain ⟨k, s', m, a, b⟩ := t
      have y0' : w7.cell? ⟨b8, i * 5, none⟩ = some (.int .i64 k) := y0
      have y1' : w7.cell? ⟨b8, i * 5 + 1, none⟩ = some (.string s') := y1
      have y2' : w7.cell? ⟨b8, i * 5 + 2, none⟩ = some (.int .u64 m) := y2
      have y3' : w7.cell? ⟨b8, i * 5 + 3, none⟩ = some (.int .i64 a) := y3
      have y4' : w7.cell? ⟨b8, i * 5 + 4, none⟩ = some (.int .i64 b) := y4
      clear y0 y1 y2 y3 y4
      by_cases h7 : k < 7
      · rw [norm_low h7] at x0 x1 x2 x3 x4
        have x0' : w7.cell? ⟨b7, i * 5, none⟩ = some (.int .i64 k) := x0
        have x1' : w7.cell? ⟨b7, i * 5 + 1, none⟩ = some (.string s') := x1
        have x2' : w7.cell? ⟨b7, i * 5 + 2, none⟩ = some (.int .u64 m) := x2
        have x3' : w7.cell? ⟨b7, i * 5 + 3, none⟩ = some (.int .i64 a) := x3
        have x4' : w7.cell? ⟨b7, i * 5 + 4, none⟩ = some (.int .i64 b) := x4
        clear x0 x1 x2 x3 x4
        go_wp2
        go_quiet (fail)
        go_wp2
        go_roundw
        case rel => exact ⟨i + 1, by omega, by go_num, _, rfl⟩
        case measure => simp [intOf]; omega
      · rw [norm_high h7] at x0 x1 x2 x3 x4
        have x0' : w7.cell? ⟨b7, i * 5, none⟩ = some (.int .i64 k) := x0
        have x1' : w7.cell? ⟨b7, i * 5 + 1, none⟩ = some (.string s') := x1
        have x2' : w7.cell? ⟨b7, i * 5 + 2, none⟩ = some (.int .u64 m) := x2
        have hd7 : decide (k < 7) = false := decide_eq_false h7
        clear x0 x1 x2 x3 x4
        go_wp2
        go_quiet (fail)
        go_wp2
        go_roundw
        case rel => exact ⟨i + 1, by omega, by go_num, _, rfl⟩
        case measure => simp [intOf]; omega
    · have en : n = i := by omega
      subst en
      go_wp2
      go_ret
      exact ⟨rfl, G7.out.trans (by have := Go.below_drewN (Below.refl w7.heap.size w7) q; exact this.mono (by have := G7.out.size; omega))⟩
theorem tretoks_walk (s : ByteArray) (w : World) (env : Env w) (_hm : s.size ≤ 9223372036854775807) : Calls Tryz.prog 4 #[.string s] w fun e w' => e = .returned (.bool true) ∧ Below w.heap.size w w' := by
  by_cases h : s.size ≤ 5000
  · cases hr : treR s with
    | error x => obtain ⟨c, a, b⟩ := x; exact tretoks_bad s w env h c a b hr
    | ok I => exact tretoks_fine s w env h I hr
  · exact tretoks_long s w env (by omega)

end Go.Proofs.YthfmllgflnideaaGreatDoor
