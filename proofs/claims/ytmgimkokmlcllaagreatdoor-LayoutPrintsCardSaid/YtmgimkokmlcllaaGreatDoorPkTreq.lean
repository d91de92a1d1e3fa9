/-
  Package tree's list of items, walked.
-/
import Derived.Test.YtmgimkokmlcllaaGreatDoorPkTrep
namespace Go.Proofs.YtmgimkokmlcllaaGreatDoor
open Go.RowKit

set_option maxRecDepth 100000 in
set_option maxHeartbeats 16000000 in
theorem list_step (d : Nat) (hd1 : 1 ≤ d) (hd5 : d ≤ 5) (hI : d ≤ 4 → ItemOK d) : ListOK d := by
  intro w rb T0 n0 hrd hT hn
  obtain ⟨t, T, rfl, hend⟩ := hT.split
  obtain ⟨K, hK⟩ : ∃ K, endK d = K := ⟨_, rfl⟩
  have HLT := Lib.hid hrd.lt
  have HN := Lib.hid (next_any w rb n0 t T hrd)
  unfold tkA at HN
  have hkd : (((d : Int) == 1) = true ∧ K = 0) ∨ (((d : Int) == 1) = false ∧ K = 8) := by
    rw [← hK]; unfold endK
    by_cases e : d = 1
    · exact Or.inl ⟨by simp; omega, if_pos e⟩
    · exact Or.inr ⟨by simp; omega, if_neg e⟩
  have HE := Lib.hid hend
  have HI := Lib.hid hI
  have HD1 := Lib.hid hd1
  have HD5 := Lib.hid hd5
  have HN3 := Lib.hid hn
  have HKD := Lib.hid hK
  clear hrd hT hn hend hI hd1 hd5 hK
  rcases hkd with ⟨hb1, rfl⟩ | ⟨hb1, rfl⟩
  · go_enter Tryz.func31, Tryz.ntmps31
    go_wp2_with (go_at_call 53; (with_reducible refine (HN.out).mono ?_); rintro e w1 ⟨rfl, hr1, ho1⟩; obtain ⟨g, W5, W6, tv⟩ := tok_var w1 t; have h0 := tv.g0; have ha := tv.a5; have hs := tv.s6; have x0 := tv.f5.c0; have z0 := tv.f5.q 0; have x1 := tv.f5.c1; have z1 := tv.f5.q 1; have x2 := tv.f5.c2; have z2 := tv.f5.q 2; have x3 := tv.f5.c3; have z3 := tv.f5.q 3; have x4 := tv.f5.c4; have z4 := tv.f5.q 4; have HTV := Lib.hid tv; have HR1 := Lib.hid hr1; have HO1 := Lib.hid ho1; clear tv hr1 ho1)
    have HST := Lib.hid (LK.first (d := d) HTV.out HO1.out)
    have HO6 := Lib.hid (HO1.out.past (HTV.out.b6.mono HO1.out.size) (Nat.le_of_lt HLT.out))
    have HR6 := Lib.hid (HR1.out.after HTV.out.b6)
    clear x0 z0 x1 z1 x2 z2 x3 z3 x4 z4 h0 ha hs
    go_loopw [6, 7] (fun v6 v7 wr => ∃ (t' : Tk3) (T' : List Tk3) (n' tb : Nat) (ps : List ItV), v7 = .pointer (some ⟨tb, 0, none⟩) ∧ LK d w.heap.size t' tb v6 ps wr ∧ RdM wr rb T' n' ∧ OnlyO rb (fun i => i = rb) w wr ∧ Hid (LRun d (t :: T) n0 (ps.map ItV.x) (t' :: T') n') ∧ n0 ≤ n' ∧ n' ≤ 300 ∧ ps.length ≤ n' ∧ T'.length ≤ T.length ∧ (t'.k = 0 ∧ T' = [] ∨ t'.k ≠ 0 ∧ TEnd T')) (fun _ _ wr => lenR wr rb)
    case atStart => exact ⟨t, T, n0, g, [], rfl, HST.out, HR6.out, HO6.out, Lib.hid (LRun.start _ _ _), Nat.le_refl _, HN3.out, Nat.zero_le _, Nat.le_refl _, HE.out⟩
    case round =>
      rename_i wr
      obtain ⟨t', T', n', tb, ps, rfl, hk, hr, ho, HRUN, hn1, hn3, hpl, hTl, hend⟩ := hrel
      have HK := Lib.hid hk
      have HR := Lib.hid hr
      have HO := Lib.hid ho
      have HEND := Lib.hid hend
      have HPL := Lib.hid hpl
      have HTL := Lib.hid hTl
      have HN1 := Lib.hid hn1
      have HN4 := Lib.hid hn3
      have c0 := hk.tok.c0; have c1 := hk.tok.c1; have c2 := hk.tok.c2; have c3 := hk.tok.c3; have c4 := hk.tok.c4
      clear hk hr ho hend hpl hTl hn1 hn3
      by_cases he : t'.k = 0
      · have heb : (t'.k != 0) = false := by simpa using he
        have HDONE := Lib.hid (HRUN.out.done (he.trans HKD.out.symm))
        have HTE : Hid (2 ≤ d → TEnd T') := Lib.hid (fun h2 => by have := HKD.out; unfold endK at this; rw [if_neg (by omega)] at this; omega)
        clear he
        go_wp2
        go_ret
        exact ⟨HO.out, Or.inr ⟨_, _, T', n', rfl, HDONE.out, HK.out.items HD5.out, HR.out, HN1.out, HN4.out, HTE.out, Nat.le_trans HTL.out (Nat.le_succ _)⟩⟩
      · have heb : (t'.k != 0) = true := by simpa using he
        have HNE : Hid (t'.k ≠ endK d) := Lib.hid (by rw [HKD.out]; exact he)
        clear he
        by_cases h1 : t'.k = 1
        · by_cases hd4 : d ≤ 4
          · by_cases hn3 : n' < 300
            · have HBG := Lib.hid (begin_fine d t' wr rb n' T' HR.out h1 hd4 hn3)
              have HTE : Hid (TEnd T') := Lib.hid (by rcases HEND.out with ⟨e, _⟩ | ⟨_, e⟩; omega; exact e)
              have HIT := Lib.hid (HI.out hd4)
              have HBAD := Lib.hid (fun c a b => LRun.bad (c := c) (a := a) (b := b) HRUN.out h1 hd4 hn3)
              have HMORE := Lib.hid (fun n2 T2 x => LRun.more (n' := n2) (T' := T2) (x := x) HRUN.out h1 hd4 hn3)
              have HN5 := Lib.hid (show n' + 1 ≤ 300 from hn3)
              unfold ItemOK at HIT
              unfold tkA at HBG HIT
              clear h1 hn3 hd4
              go_wp2_with (first
                | (go_at_call 54; (with_reducible refine (HBG.out).mono ?_); rintro e w1' ⟨rfl, hr1, ho1⟩; have HR2 := Lib.hid hr1; have HO2 := Lib.hid (HO.out.step ho1); have HK2 := Lib.hid (HK.out.only ho1 HLT.out); have d0 := HK2.out.tok.c0; have d1 := HK2.out.tok.c1; have d2 := HK2.out.tok.c2; have d3 := HK2.out.tok.c3; have d4 := HK2.out.tok.c4; clear hr1 ho1)
                | (go_at_call 55; (with_reducible refine (HIT.out w1' rb t' T' (n' + 1) HR2.out HTE.out HN5.out).mono ?_)))
              intro e w2 hi
              obtain ⟨ho2, hi⟩ := hi
              rcases hi with ⟨c, a, b, hbad, rfl⟩ | ⟨x, wv, kv, T2, n2, rfl, hrun2, hw2, hk2, hr2, hn2, hn23, hte2, htl2⟩
              · unfold flies
                go_wp2
                exact ⟨rfl, HO2.out.step ho2, Or.inl ⟨c, a, b, HBAD.out c a b hbad, rfl⟩⟩
              · obtain ⟨t3, T3, rfl, hend3⟩ := hte2.split
                have HRN := Lib.hid (HMORE.out n2 (t3 :: T3) x hrun2)
                have HO3 := Lib.hid (HO2.out.step ho2)
                have HK3 := Lib.hid (HK2.out.only ho2 HLT.out)
                have HW2 := Lib.hid hw2
                have HKK2 := Lib.hid hk2
                have HR3 := Lib.hid hr2
                have HLO := Lib.hid (show w.heap.size ≤ w1'.heap.size from HO2.out.size)
                have HTLO := Lib.hid (show tb < w1'.heap.size from HK2.out.tok.s)
                have HVLO := Lib.hid HK2.out.blk
                have HEND3 := Lib.hid hend3
                have HN23 := Lib.hid (And.intro hn2 hn23)
                have HTL3 := Lib.hid htl2
                obtain ⟨p, hp⟩ : ∃ p : ItV, p = ⟨x, wv, kv⟩ := ⟨_, rfl⟩
                obtain ⟨gg, hgg⟩ : ∃ gg, w2.heap.size = gg := ⟨_, rfl⟩
                obtain ⟨W3, hW3⟩ : ∃ W, w2.alloc (.cells #[.string x.name, wv, .bool x.block, kv, .int .i64 x.a, .int .i64 x.b] 51) = W := ⟨_, rfl⟩
                have CA : Hid (∀ j, j < 6 → W3.cell? ⟨gg, j, none⟩ = some (p.cells.getD j undef)) := Lib.hid (by rw [← hW3, ← hgg, hp]; exact item_cells (p := ⟨x, wv, kv⟩))
                have h3 : Below w2.heap.size w2 W3 := by rw [← hW3]; exact (Below.refl _ _).alloc (Nat.le_refl _) _
                have H3 := Lib.hid h3
                have HROW := Lib.hid (HK3.out.row.below h3)
                have HPO : Hid (∀ u ∈ p.cells, u.oneCell' = true) := Lib.hid (by rw [hp]; exact itv_one hw2.one hk2.one)
                have HL6 : Hid ((ps.map ItV.cells).length ≤ 1000000) := Lib.hid (by rw [List.length_map]; have := HPL.out; have := HN4.out; omega)
                have HSZ : Hid (w.heap.size ≤ W3.heap.size) := Lib.hid (by have := h3.size; have := HLO.out; have := ho2.size; omega)
                have HPX := Lib.hid hp
                clear hp hw2 hk2 hr2 hn2 hn23 htl2 hend3 hte2 h3 ho2 hrun2 d0 d1 d2 d3 d4 c0 c1 c2 c3 c4
                go_wp2_with (at_builtin; (refine wp_rowK (T := 22) (t := 51) (sz := 6) rfl _ _ rfl Tryz.underlying22 info_item rfl (by decide) (by decide) w.heap.size _ _ rfl HROW.out gg p.cells rfl rfl CA.out HPO.out HL6.out HSZ.out ?_))
                intro v' w4 hr4 ho4 hob
                have HK4 : Hid (LK d w.heap.size t' tb v' (ps ++ [p]) w4) := Lib.hid (LK.push HK3.out H3.out HLO.out HTLO.out HVLO.out (by rw [HPX.out]; exact HW2.out) (by rw [HPX.out]; exact HKK2.out) hr4 ho4 hob)
                have HO4 := Lib.hid ((HO3.out.past (H3.out.mono (by have := HO3.out.size; omega)) (Nat.le_of_lt HLT.out)).trans2 ho4 HLT.out)
                have HR4 := Lib.hid ((HR3.out.after H3.out).keep (fun i hi => ho4.bel.block i (Nat.lt_of_le_of_lt hi HLT.out)) ho4.size)
                have d0 := HK4.out.tok.c0; have d1 := HK4.out.tok.c1; have d2 := HK4.out.tok.c2; have d3 := HK4.out.tok.c3; have d4 := HK4.out.tok.c4
                obtain ⟨g, W5, W6, tv⟩ := tok_var w4 t'
                have h0 := tv.g0; have ha := tv.a5; have hs := tv.s6; have x0 := tv.f5.c0; have z0 := tv.f5.q 0; have x1 := tv.f5.c1; have z1 := tv.f5.q 1; have x2 := tv.f5.c2; have z2 := tv.f5.q 2; have x3 := tv.f5.c3; have z3 := tv.f5.q 3; have x4 := tv.f5.c4; have z4 := tv.f5.q 4
                have HTV := Lib.hid tv
                have HN6 := Lib.hid (next_any W6 rb n2 t3 T3 (HR4.out.after tv.b6))
                unfold tkA at HN6
                clear tv hr4 ho4 hob hW3
                go_wp2_with (go_at_call 53; (with_reducible refine (HN6.out).mono ?_); rintro e w7 ⟨rfl, hr7, ho7⟩; have v7 := HTV.out.f6.stay (ho7.keep g HTV.out.f6.s (fun e => by have := HLT.out; have := HTV.out.g0; have := HO4.out.size; omega)) ho7.size; have y0 := v7.c0; have yz0 := v7.q 0; have y1 := v7.c1; have yz1 := v7.q 1; have y2 := v7.c2; have yz2 := v7.q 2; have y3 := v7.c3; have yz3 := v7.q 3; have y4 := v7.c4; have yz4 := v7.q 4; have HV7 := Lib.hid v7; have HR7 := Lib.hid hr7; have HO7 := Lib.hid ho7; clear v7 hr7 ho7)
                have HSB : Hid (w.heap.size ≤ w4.heap.size) := Lib.hid HO4.out.size
                have HBP : Hid (Below g w7 (put5 w7 g (.int .i64 t3.k) (.string t3.s) (.int .u64 t3.n) (.int .i64 t3.a) (.int .i64 t3.b))) := Lib.hid (below_put5 (Below.refl _ _) (Nat.le_refl _) _ _ _ _ _)
                have HLKN : Hid (LK d w.heap.size t3 g v' (ps ++ [p]) (put5 w7 g (.int .i64 t3.k) (.string t3.s) (.int .u64 t3.n) (.int .i64 t3.a) (.int .i64 t3.b))) := Lib.hid (HK4.out.next (Nat.le_of_eq HTV.out.g0) (fun i h1 h2 => ((HBP.out.block i (by rw [← HTV.out.g0]; exact h2)).trans (HO7.out.keep i (Nat.lt_of_lt_of_le h2 HTV.out.b6.size) (fun e => by have := HLT.out; omega))).trans (HTV.out.b6.block i h2)) (Nat.le_trans HTV.out.b6.size (Nat.le_trans HO7.out.size HBP.out.size)) HSB.out (HV7.out.put _ _ _ _ _))
                have HRN2 : Hid (RdM (put5 w7 g (.int .i64 t3.k) (.string t3.s) (.int .u64 t3.n) (.int .i64 t3.a) (.int .i64 t3.b)) rb T3 n2) := Lib.hid (HR7.out.keep (fun i hi => HBP.out.block i (by have := HTV.out.g0; have := HSB.out; have := HLT.out; omega)) HBP.out.size)
                have HON : Hid (OnlyO rb (fun i => i = rb) w (put5 w7 g (.int .i64 t3.k) (.string t3.s) (.int .u64 t3.n) (.int .i64 t3.a) (.int .i64 t3.b))) := Lib.hid (((HO4.out.past (HTV.out.b6.mono HSB.out) (Nat.le_of_lt HLT.out)).step HO7.out).past (HBP.out.mono (by have := HTV.out.g0; have := HSB.out; omega)) (Nat.le_of_lt HLT.out))
                have HRUN2 : Hid (LRun d (t :: T) n0 ((ps ++ [p]).map ItV.x) (t3 :: T3) n2) := Lib.hid (by have e : (ps ++ [p]).map ItV.x = ps.map ItV.x ++ [x] := (by rw [List.map_append, HPX.out]; rfl); rw [e]; exact HRN.out)
                have HNU : Hid (n0 ≤ n2 ∧ n2 ≤ 300 ∧ (ps ++ [p]).length ≤ n2 ∧ T3.length < T'.length ∧ T3.length ≤ T.length) := Lib.hid (by
                  have q1 := HN23.out.1; have q2 := HN23.out.2; have q3 := HN1.out; have q4 := HPL.out; have q5 := HTL3.out; have q6 := HTL.out
                  rw [List.length_cons] at q5
                  refine ⟨by omega, q2, by rw [List.length_append, List.length_singleton]; omega, by omega, by omega⟩)
                have HLEN := Lib.hid (And.intro HR.out.len HRN2.out.len)
                go_roundw
                case rel => exact ⟨t3, T3, n2, g, ps ++ [p], rfl, HLKN.out, HRN2.out, HON.out, HRUN2, HNU.out.1, HNU.out.2.1, HNU.out.2.2.1, HNU.out.2.2.2.2, HEND3.out⟩
                case measure => exact (by have h1 := HLEN.out; have h2 := HNU.out.2.2.2.1; rw [← h1.1, ← h1.2] at h2; exact h2)
            · obtain rfl : n' = 300 := by have := HN4.out; omega
              have HBG := Lib.hid (begin_long d t' wr rb T' HR.out h1 hd4)
              have HBAD := Lib.hid (HRUN.out.long h1 hd4 (Nat.le_refl _))
              unfold tkA flies at HBG
              clear h1 hn3 hd4
              go_wp2_with (go_at_call 54; (with_reducible refine (HBG.out).mono ?_); rintro e w1' ⟨rfl, ho1⟩; have HO2 := Lib.hid (HO.out.past (ho1.mono HO.out.size) (Nat.le_of_lt HLT.out)); clear ho1)
              exact ⟨rfl, HO2.out, Or.inl ⟨_, _, _, HBAD.out, rfl⟩⟩
          · have HBG := Lib.hid (begin_deep d t' wr rb h1 (by omega))
            have HBAD := Lib.hid (HRUN.out.deep h1 (by omega))
            unfold tkA flies at HBG
            clear h1 hd4
            go_wp2_with (go_at_call 54; (with_reducible refine (HBG.out).mono ?_); rintro e w1' ⟨rfl, ho1⟩; have HO2 := Lib.hid (HO.out.past (ho1.mono HO.out.size) (Nat.le_of_lt HLT.out)); clear ho1)
            exact ⟨rfl, HO2.out, Or.inl ⟨_, _, _, HBAD.out, rfl⟩⟩
        · have HBG := Lib.hid (begin_form d t' wr rb h1)
          have HBAD := Lib.hid (HRUN.out.form HNE.out h1)
          unfold tkA flies at HBG
          clear h1
          go_wp2_with (go_at_call 54; (with_reducible refine (HBG.out).mono ?_); rintro e w1' ⟨rfl, ho1⟩; have HO2 := Lib.hid (HO.out.past (ho1.mono HO.out.size) (Nat.le_of_lt HLT.out)); clear ho1)
          exact ⟨rfl, HO2.out, Or.inl ⟨_, _, _, HBAD.out, rfl⟩⟩
  · go_enter Tryz.func31, Tryz.ntmps31
    go_wp2_with (go_at_call 53; (with_reducible refine (HN.out).mono ?_); rintro e w1 ⟨rfl, hr1, ho1⟩; obtain ⟨g, W5, W6, tv⟩ := tok_var w1 t; have h0 := tv.g0; have ha := tv.a5; have hs := tv.s6; have x0 := tv.f5.c0; have z0 := tv.f5.q 0; have x1 := tv.f5.c1; have z1 := tv.f5.q 1; have x2 := tv.f5.c2; have z2 := tv.f5.q 2; have x3 := tv.f5.c3; have z3 := tv.f5.q 3; have x4 := tv.f5.c4; have z4 := tv.f5.q 4; have HTV := Lib.hid tv; have HR1 := Lib.hid hr1; have HO1 := Lib.hid ho1; clear tv hr1 ho1)
    have HST := Lib.hid (LK.first (d := d) HTV.out HO1.out)
    have HO6 := Lib.hid (HO1.out.past (HTV.out.b6.mono HO1.out.size) (Nat.le_of_lt HLT.out))
    have HR6 := Lib.hid (HR1.out.after HTV.out.b6)
    clear x0 z0 x1 z1 x2 z2 x3 z3 x4 z4 h0 ha hs
    go_loopw [6, 7] (fun v6 v7 wr => ∃ (t' : Tk3) (T' : List Tk3) (n' tb : Nat) (ps : List ItV), v7 = .pointer (some ⟨tb, 0, none⟩) ∧ LK d w.heap.size t' tb v6 ps wr ∧ RdM wr rb T' n' ∧ OnlyO rb (fun i => i = rb) w wr ∧ Hid (LRun d (t :: T) n0 (ps.map ItV.x) (t' :: T') n') ∧ n0 ≤ n' ∧ n' ≤ 300 ∧ ps.length ≤ n' ∧ T'.length ≤ T.length ∧ (t'.k = 0 ∧ T' = [] ∨ t'.k ≠ 0 ∧ TEnd T')) (fun _ _ wr => lenR wr rb)
    case atStart => exact ⟨t, T, n0, g, [], rfl, HST.out, HR6.out, HO6.out, Lib.hid (LRun.start _ _ _), Nat.le_refl _, HN3.out, Nat.zero_le _, Nat.le_refl _, HE.out⟩
    case round =>
      rename_i wr
      obtain ⟨t', T', n', tb, ps, rfl, hk, hr, ho, HRUN, hn1, hn3, hpl, hTl, hend⟩ := hrel
      have HK := Lib.hid hk
      have HR := Lib.hid hr
      have HO := Lib.hid ho
      have HEND := Lib.hid hend
      have HPL := Lib.hid hpl
      have HTL := Lib.hid hTl
      have HN1 := Lib.hid hn1
      have HN4 := Lib.hid hn3
      have c0 := hk.tok.c0; have c1 := hk.tok.c1; have c2 := hk.tok.c2; have c3 := hk.tok.c3; have c4 := hk.tok.c4
      clear hk hr ho hend hpl hTl hn1 hn3
      by_cases he : t'.k = 8
      · have heb : (t'.k != 8) = false := by simpa using he
        have HDONE := Lib.hid (HRUN.out.done (he.trans HKD.out.symm))
        have HTE : Hid (2 ≤ d → TEnd T') := Lib.hid (fun h2 => by rcases HEND.out with ⟨e, _⟩ | ⟨_, e⟩; omega; exact e)
        clear he
        go_wp2
        go_ret
        exact ⟨HO.out, Or.inr ⟨_, _, T', n', rfl, HDONE.out, HK.out.items HD5.out, HR.out, HN1.out, HN4.out, HTE.out, Nat.le_trans HTL.out (Nat.le_succ _)⟩⟩
      · have heb : (t'.k != 8) = true := by simpa using he
        have HNE : Hid (t'.k ≠ endK d) := Lib.hid (by rw [HKD.out]; exact he)
        clear he
        by_cases h1 : t'.k = 1
        · by_cases hd4 : d ≤ 4
          · by_cases hn3 : n' < 300
            · have HBG := Lib.hid (begin_fine d t' wr rb n' T' HR.out h1 hd4 hn3)
              have HTE : Hid (TEnd T') := Lib.hid (by rcases HEND.out with ⟨e, _⟩ | ⟨_, e⟩; omega; exact e)
              have HIT := Lib.hid (HI.out hd4)
              have HBAD := Lib.hid (fun c a b => LRun.bad (c := c) (a := a) (b := b) HRUN.out h1 hd4 hn3)
              have HMORE := Lib.hid (fun n2 T2 x => LRun.more (n' := n2) (T' := T2) (x := x) HRUN.out h1 hd4 hn3)
              have HN5 := Lib.hid (show n' + 1 ≤ 300 from hn3)
              unfold ItemOK at HIT
              unfold tkA at HBG HIT
              clear h1 hn3 hd4
              go_wp2_with (first
                | (go_at_call 54; (with_reducible refine (HBG.out).mono ?_); rintro e w1' ⟨rfl, hr1, ho1⟩; have HR2 := Lib.hid hr1; have HO2 := Lib.hid (HO.out.step ho1); have HK2 := Lib.hid (HK.out.only ho1 HLT.out); have d0 := HK2.out.tok.c0; have d1 := HK2.out.tok.c1; have d2 := HK2.out.tok.c2; have d3 := HK2.out.tok.c3; have d4 := HK2.out.tok.c4; clear hr1 ho1)
                | (go_at_call 55; (with_reducible refine (HIT.out w1' rb t' T' (n' + 1) HR2.out HTE.out HN5.out).mono ?_)))
              intro e w2 hi
              obtain ⟨ho2, hi⟩ := hi
              rcases hi with ⟨c, a, b, hbad, rfl⟩ | ⟨x, wv, kv, T2, n2, rfl, hrun2, hw2, hk2, hr2, hn2, hn23, hte2, htl2⟩
              · unfold flies
                go_wp2
                exact ⟨rfl, HO2.out.step ho2, Or.inl ⟨c, a, b, HBAD.out c a b hbad, rfl⟩⟩
              · obtain ⟨t3, T3, rfl, hend3⟩ := hte2.split
                have HRN := Lib.hid (HMORE.out n2 (t3 :: T3) x hrun2)
                have HO3 := Lib.hid (HO2.out.step ho2)
                have HK3 := Lib.hid (HK2.out.only ho2 HLT.out)
                have HW2 := Lib.hid hw2
                have HKK2 := Lib.hid hk2
                have HR3 := Lib.hid hr2
                have HLO := Lib.hid (show w.heap.size ≤ w1'.heap.size from HO2.out.size)
                have HTLO := Lib.hid (show tb < w1'.heap.size from HK2.out.tok.s)
                have HVLO := Lib.hid HK2.out.blk
                have HEND3 := Lib.hid hend3
                have HN23 := Lib.hid (And.intro hn2 hn23)
                have HTL3 := Lib.hid htl2
                obtain ⟨p, hp⟩ : ∃ p : ItV, p = ⟨x, wv, kv⟩ := ⟨_, rfl⟩
                obtain ⟨gg, hgg⟩ : ∃ gg, w2.heap.size = gg := ⟨_, rfl⟩
                obtain ⟨W3, hW3⟩ : ∃ W, w2.alloc (.cells #[.string x.name, wv, .bool x.block, kv, .int .i64 x.a, .int .i64 x.b] 51) = W := ⟨_, rfl⟩
                have CA : Hid (∀ j, j < 6 → W3.cell? ⟨gg, j, none⟩ = some (p.cells.getD j undef)) := Lib.hid (by rw [← hW3, ← hgg, hp]; exact item_cells (p := ⟨x, wv, kv⟩))
                have h3 : Below w2.heap.size w2 W3 := by rw [← hW3]; exact (Below.refl _ _).alloc (Nat.le_refl _) _
                have H3 := Lib.hid h3
                have HROW := Lib.hid (HK3.out.row.below h3)
                have HPO : Hid (∀ u ∈ p.cells, u.oneCell' = true) := Lib.hid (by rw [hp]; exact itv_one hw2.one hk2.one)
                have HL6 : Hid ((ps.map ItV.cells).length ≤ 1000000) := Lib.hid (by rw [List.length_map]; have := HPL.out; have := HN4.out; omega)
                have HSZ : Hid (w.heap.size ≤ W3.heap.size) := Lib.hid (by have := h3.size; have := HLO.out; have := ho2.size; omega)
                have HPX := Lib.hid hp
                clear hp hw2 hk2 hr2 hn2 hn23 htl2 hend3 hte2 h3 ho2 hrun2 d0 d1 d2 d3 d4 c0 c1 c2 c3 c4
                go_wp2_with (at_builtin; (refine wp_rowK (T := 22) (t := 51) (sz := 6) rfl _ _ rfl Tryz.underlying22 info_item rfl (by decide) (by decide) w.heap.size _ _ rfl HROW.out gg p.cells rfl rfl CA.out HPO.out HL6.out HSZ.out ?_))
                intro v' w4 hr4 ho4 hob
                have HK4 : Hid (LK d w.heap.size t' tb v' (ps ++ [p]) w4) := Lib.hid (LK.push HK3.out H3.out HLO.out HTLO.out HVLO.out (by rw [HPX.out]; exact HW2.out) (by rw [HPX.out]; exact HKK2.out) hr4 ho4 hob)
                have HO4 := Lib.hid ((HO3.out.past (H3.out.mono (by have := HO3.out.size; omega)) (Nat.le_of_lt HLT.out)).trans2 ho4 HLT.out)
                have HR4 := Lib.hid ((HR3.out.after H3.out).keep (fun i hi => ho4.bel.block i (Nat.lt_of_le_of_lt hi HLT.out)) ho4.size)
                have d0 := HK4.out.tok.c0; have d1 := HK4.out.tok.c1; have d2 := HK4.out.tok.c2; have d3 := HK4.out.tok.c3; have d4 := HK4.out.tok.c4
                obtain ⟨g, W5, W6, tv⟩ := tok_var w4 t'
                have h0 := tv.g0; have ha := tv.a5; have hs := tv.s6; have x0 := tv.f5.c0; have z0 := tv.f5.q 0; have x1 := tv.f5.c1; have z1 := tv.f5.q 1; have x2 := tv.f5.c2; have z2 := tv.f5.q 2; have x3 := tv.f5.c3; have z3 := tv.f5.q 3; have x4 := tv.f5.c4; have z4 := tv.f5.q 4
                have HTV := Lib.hid tv
                have HN6 := Lib.hid (next_any W6 rb n2 t3 T3 (HR4.out.after tv.b6))
                unfold tkA at HN6
                clear tv hr4 ho4 hob hW3
                go_wp2_with (go_at_call 53; (with_reducible refine (HN6.out).mono ?_); rintro e w7 ⟨rfl, hr7, ho7⟩; have v7 := HTV.out.f6.stay (ho7.keep g HTV.out.f6.s (fun e => by have := HLT.out; have := HTV.out.g0; have := HO4.out.size; omega)) ho7.size; have y0 := v7.c0; have yz0 := v7.q 0; have y1 := v7.c1; have yz1 := v7.q 1; have y2 := v7.c2; have yz2 := v7.q 2; have y3 := v7.c3; have yz3 := v7.q 3; have y4 := v7.c4; have yz4 := v7.q 4; have HV7 := Lib.hid v7; have HR7 := Lib.hid hr7; have HO7 := Lib.hid ho7; clear v7 hr7 ho7)
                have HSB : Hid (w.heap.size ≤ w4.heap.size) := Lib.hid HO4.out.size
                have HBP : Hid (Below g w7 (put5 w7 g (.int .i64 t3.k) (.string t3.s) (.int .u64 t3.n) (.int .i64 t3.a) (.int .i64 t3.b))) := Lib.hid (below_put5 (Below.refl _ _) (Nat.le_refl _) _ _ _ _ _)
                have HLKN : Hid (LK d w.heap.size t3 g v' (ps ++ [p]) (put5 w7 g (.int .i64 t3.k) (.string t3.s) (.int .u64 t3.n) (.int .i64 t3.a) (.int .i64 t3.b))) := Lib.hid (HK4.out.next (Nat.le_of_eq HTV.out.g0) (fun i h1 h2 => ((HBP.out.block i (by rw [← HTV.out.g0]; exact h2)).trans (HO7.out.keep i (Nat.lt_of_lt_of_le h2 HTV.out.b6.size) (fun e => by have := HLT.out; omega))).trans (HTV.out.b6.block i h2)) (Nat.le_trans HTV.out.b6.size (Nat.le_trans HO7.out.size HBP.out.size)) HSB.out (HV7.out.put _ _ _ _ _))
                have HRN2 : Hid (RdM (put5 w7 g (.int .i64 t3.k) (.string t3.s) (.int .u64 t3.n) (.int .i64 t3.a) (.int .i64 t3.b)) rb T3 n2) := Lib.hid (HR7.out.keep (fun i hi => HBP.out.block i (by have := HTV.out.g0; have := HSB.out; have := HLT.out; omega)) HBP.out.size)
                have HON : Hid (OnlyO rb (fun i => i = rb) w (put5 w7 g (.int .i64 t3.k) (.string t3.s) (.int .u64 t3.n) (.int .i64 t3.a) (.int .i64 t3.b))) := Lib.hid (((HO4.out.past (HTV.out.b6.mono HSB.out) (Nat.le_of_lt HLT.out)).step HO7.out).past (HBP.out.mono (by have := HTV.out.g0; have := HSB.out; omega)) (Nat.le_of_lt HLT.out))
                have HRUN2 : Hid (LRun d (t :: T) n0 ((ps ++ [p]).map ItV.x) (t3 :: T3) n2) := Lib.hid (by have e : (ps ++ [p]).map ItV.x = ps.map ItV.x ++ [x] := (by rw [List.map_append, HPX.out]; rfl); rw [e]; exact HRN.out)
                have HNU : Hid (n0 ≤ n2 ∧ n2 ≤ 300 ∧ (ps ++ [p]).length ≤ n2 ∧ T3.length < T'.length ∧ T3.length ≤ T.length) := Lib.hid (by
                  have q1 := HN23.out.1; have q2 := HN23.out.2; have q3 := HN1.out; have q4 := HPL.out; have q5 := HTL3.out; have q6 := HTL.out
                  rw [List.length_cons] at q5
                  refine ⟨by omega, q2, by rw [List.length_append, List.length_singleton]; omega, by omega, by omega⟩)
                have HLEN := Lib.hid (And.intro HR.out.len HRN2.out.len)
                go_roundw
                case rel => exact ⟨t3, T3, n2, g, ps ++ [p], rfl, HLKN.out, HRN2.out, HON.out, HRUN2, HNU.out.1, HNU.out.2.1, HNU.out.2.2.1, HNU.out.2.2.2.2, HEND3.out⟩
                case measure => exact (by have h1 := HLEN.out; have h2 := HNU.out.2.2.2.1; rw [← h1.1, ← h1.2] at h2; exact h2)
            · obtain rfl : n' = 300 := by have := HN4.out; omega
              have HBG := Lib.hid (begin_long d t' wr rb T' HR.out h1 hd4)
              have HBAD := Lib.hid (HRUN.out.long h1 hd4 (Nat.le_refl _))
              unfold tkA flies at HBG
              clear h1 hn3 hd4
              go_wp2_with (go_at_call 54; (with_reducible refine (HBG.out).mono ?_); rintro e w1' ⟨rfl, ho1⟩; have HO2 := Lib.hid (HO.out.past (ho1.mono HO.out.size) (Nat.le_of_lt HLT.out)); clear ho1)
              exact ⟨rfl, HO2.out, Or.inl ⟨_, _, _, HBAD.out, rfl⟩⟩
          · have HBG := Lib.hid (begin_deep d t' wr rb h1 (by omega))
            have HBAD := Lib.hid (HRUN.out.deep h1 (by omega))
            unfold tkA flies at HBG
            clear h1 hd4
            go_wp2_with (go_at_call 54; (with_reducible refine (HBG.out).mono ?_); rintro e w1' ⟨rfl, ho1⟩; have HO2 := Lib.hid (HO.out.past (ho1.mono HO.out.size) (Nat.le_of_lt HLT.out)); clear ho1)
            exact ⟨rfl, HO2.out, Or.inl ⟨_, _, _, HBAD.out, rfl⟩⟩
        · have HBG := Lib.hid (begin_form d t' wr rb h1)
          have HBAD := Lib.hid (HRUN.out.form HNE.out h1)
          unfold tkA flies at HBG
          clear h1
          go_wp2_with (go_at_call 54; (with_reducible refine (HBG.out).mono ?_); rintro e w1' ⟨rfl, ho1⟩; have HO2 := Lib.hid (HO.out.past (ho1.mono HO.out.size) (Nat.le_of_lt HLT.out)); clear ho1)
          exact ⟨rfl, HO2.out, Or.inl ⟨_, _, _, HBAD.out, rfl⟩⟩

end Go.Proofs.YtmgimkokmlcllaaGreatDoor

/-
  Package tree's item, walked.
-/
namespace Go.Proofs.YtmgimkokmlcllaaGreatDoor
open Go.RowKit

structure ItemMade (w : World) (B : Nat) (t0 : Tk3) (W0 W1 W2 W3 : World) : Prop where
  b0 : w.heap.size = B
  a0 : w.alloc (.cells #[.int .i64 t0.k, .string t0.s, .int .u64 t0.n, .int .i64 t0.a, .int .i64 t0.b] 59) = W0
  a1 : W0.alloc (.cells #[.string ⟨#[]⟩, .slice none 0 0, .bool false, .slice none 0 0, .int .i64 0, .int .i64 0] 51) = W1
  a2 : W1.alloc (.cells #[.string ⟨#[]⟩, .slice none 0 0, .bool false, .slice none 0 0, .int .i64 0, .int .i64 0] 51) = W2
  s3 : ((((((W2.setCell ⟨B + 2, 0, none⟩ (.string t0.s)).setCell ⟨B + 2, 1, none⟩ (.slice none 0 0)).setCell ⟨B + 2, 2, none⟩ (.bool false)).setCell ⟨B + 2, 3, none⟩ (.slice none 0 0)).setCell ⟨B + 2, 4, none⟩ (.int .i64 t0.a)).setCell ⟨B + 2, 5, none⟩ (.int .i64 t0.b)) = W3
  z0 : W0.heap.size = B + 1
  z1 : W1.heap.size = B + 2
  z3 : W3.heap.size = B + 3
  f1 : Var5 W1 B (.int .i64 t0.k) (.string t0.s) (.int .u64 t0.n) (.int .i64 t0.a) (.int .i64 t0.b)
  f2 : Var6 W2 (B + 2) (.string ⟨#[]⟩) (.slice none 0 0) (.bool false) (.slice none 0 0) (.int .i64 0) (.int .i64 0)
  r3 : Var6 W3 (B + 1) (.string ⟨#[]⟩) (.slice none 0 0) (.bool false) (.slice none 0 0) (.int .i64 0) (.int .i64 0)
  i3 : Var6 W3 (B + 2) (.string t0.s) (.slice none 0 0) (.bool false) (.slice none 0 0) (.int .i64 t0.a) (.int .i64 t0.b)
  g3 : Below w.heap.size w W3
theorem item_made (w : World) (t0 : Tk3) : ∃ B W0 W1 W2 W3, ItemMade w B t0 W0 W1 W2 W3 := by
  obtain ⟨B, hB⟩ : ∃ B, w.heap.size = B := ⟨_, rfl⟩
  obtain ⟨W0, hW0⟩ : ∃ W, w.alloc (.cells #[.int .i64 t0.k, .string t0.s, .int .u64 t0.n, .int .i64 t0.a, .int .i64 t0.b] 59) = W := ⟨_, rfl⟩
  have V0 : Var5 W0 B (.int .i64 t0.k) (.string t0.s) (.int .u64 t0.n) (.int .i64 t0.a) (.int .i64 t0.b) := by rw [← hW0]; exact Var5.fresh _ _ _ _ _ _ _ _ hB.symm
  have g0 : Below B w W0 := by rw [← hW0, ← hB]; exact (Below.refl _ _).alloc (Nat.le_refl _) _
  have hs0 : W0.heap.size = B + 1 := by rw [← hW0]; simp [hB]
  obtain ⟨W1, hW1⟩ : ∃ W, W0.alloc (.cells #[.string ⟨#[]⟩, .slice none 0 0, .bool false, .slice none 0 0, .int .i64 0, .int .i64 0] 51) = W := ⟨_, rfl⟩
  have b1 : Below W0.heap.size W0 W1 := by rw [← hW1]; exact (Below.refl _ _).alloc (Nat.le_refl _) _
  have V1 : Var6 W1 (B + 1) (.string ⟨#[]⟩) (.slice none 0 0) (.bool false) (.slice none 0 0) (.int .i64 0) (.int .i64 0) := by rw [← hW1]; exact Var6.fresh _ _ _ _ _ _ _ _ _ hs0.symm
  have hs1 : W1.heap.size = B + 2 := by rw [← hW1]; simp [hs0]
  obtain ⟨W2, hW2⟩ : ∃ W, W1.alloc (.cells #[.string ⟨#[]⟩, .slice none 0 0, .bool false, .slice none 0 0, .int .i64 0, .int .i64 0] 51) = W := ⟨_, rfl⟩
  have b2 : Below W1.heap.size W1 W2 := by rw [← hW2]; exact (Below.refl _ _).alloc (Nat.le_refl _) _
  have V2 : Var6 W2 (B + 2) (.string ⟨#[]⟩) (.slice none 0 0) (.bool false) (.slice none 0 0) (.int .i64 0) (.int .i64 0) := by rw [← hW2]; exact Var6.fresh _ _ _ _ _ _ _ _ _ hs1.symm
  have hs2 : W2.heap.size = B + 3 := by rw [← hW2]; simp [hs1]
  refine ⟨B, W0, W1, W2, _, hB, hW0, hW1, hW2, rfl, hs0, hs1, ?_, V0.after b1, V2, ?_, V2.put _ _ _ _ _ _, ?_⟩
  · rw [← hs2]; exact put6_size W2 (B + 2) _ _ _ _ _ _
  · exact (V1.after b2).stay (put6_else W2 (B + 2) _ _ _ _ _ _ _ (by omega)) (Nat.le_of_eq (put6_size W2 (B + 2) _ _ _ _ _ _).symm)
  · rw [hB]
    exact below_put6 ((g0.trans (b1.mono (by omega))).trans (b2.mono (by omega))) (by omega) _ _ _ _ _ _

set_option maxRecDepth 100000 in
set_option maxHeartbeats 16000000 in
theorem item_step (d : Nat) (hd1 : 1 ≤ d) (hd4 : d ≤ 4) (hL : ListOK (d + 1)) : ItemOK d := by
  intro w rb t0 T0 n hrd hT hn
  obtain ⟨t, T, rfl, hend⟩ := hT.split
  obtain ⟨B, W0, W1, W2, W3, im⟩ := item_made w t0
  have HLT : Hid (rb < B) := Lib.hid (im.b0 ▸ hrd.lt)
  have HN := Lib.hid (next_any W3 rb n t T (hrd.after im.g3))
  have HO3 : Hid (OnlyO rb (fun i => i = rb) w W3) := Lib.hid (OnlyO.of im.g3 (Nat.le_of_lt hrd.lt))
  have HE := Lib.hid hend
  have HL := Lib.hid hL
  have HD1 := Lib.hid hd1
  have HD4 := Lib.hid hd4
  have HN3 := Lib.hid hn
  have HIM := Lib.hid im
  have hb0 := im.b0; have ha0 := im.a0; have ha1 := im.a1; have ha2 := im.a2; have hs3 := im.s3; have hz0 := im.z0; have hz1 := im.z1
  have p1 := im.f1.c1; have p3 := im.f1.c3; have p4 := im.f1.c4
  have y0 := im.f2.c0; have yq0 := im.f2.q 0; have y1 := im.f2.c1; have yq1 := im.f2.q 1; have y2 := im.f2.c2; have yq2 := im.f2.q 2; have y3 := im.f2.c3; have yq3 := im.f2.q 3; have y4 := im.f2.c4; have yq4 := im.f2.q 4; have y5 := im.f2.c5; have yq5 := im.f2.q 5
  unfold tkA at HN ⊢
  clear im hrd hT hend hL hd1 hd4 hn
  go_enter Tryz.func55, Tryz.ntmps55
  go_wp2_with (go_at_call 53; (with_reducible refine (HN.out).mono ?_); rintro e w4 ⟨rfl, hr4, ho4⟩; obtain ⟨g, W5, W6, tv⟩ := tok_var w4 t; have h0 := tv.g0; have ha := tv.a5; have hs := tv.s6; have x0 := tv.f5.c0; have z0 := tv.f5.q 0; have x1 := tv.f5.c1; have z1 := tv.f5.q 1; have x2 := tv.f5.c2; have z2 := tv.f5.q 2; have x3 := tv.f5.c3; have z3 := tv.f5.q 3; have x4 := tv.f5.c4; have z4 := tv.f5.q 4; have HTV := Lib.hid tv; have HR4 := Lib.hid hr4; have HO4 := Lib.hid ho4; clear tv hr4 ho4)
  have HGB : Hid (B + 3 ≤ g) := Lib.hid (by have := HO4.out.size; have := HTV.out.g0; have := HIM.out.z3; omega)
  have HST : Hid (IK B { name := t0.s, a := t0.a, b := t0.b } t g (.slice none 0 0) [] W6) := Lib.hid (by
    have hlt := HLT.out
    have b6 := HTV.out.b6
    exact ⟨HTV.out.f6, (HIM.out.r3.stay (HO4.out.keep (B + 1) HIM.out.r3.s (fun e => by omega)) HO4.out.size).after b6, (HIM.out.i3.stay (HO4.out.keep (B + 2) HIM.out.i3.s (fun e => by omega)) HO4.out.size).after b6, RowK.nil _ _ _ _, HGB.out⟩)
  have HO6 : Hid (OnlyO rb (fun i => i = rb) w W6) := Lib.hid ((HO3.out.step HO4.out).past (HTV.out.b6.mono (by have := HO3.out.size; have := HO4.out.size; omega)) (by have := HLT.out; have := HIM.out.b0; omega))
  have HR6 := Lib.hid (HR4.out.after HTV.out.b6)
  have HWB : Hid (w.heap.size = B) := Lib.hid hb0
  clear x0 z0 x1 z1 x2 z2 x3 z3 x4 z4 h0 ha hs ha0 ha1 ha2 hs3 hz0 hz1 p1 p3 p4 y0 yq0 y1 yq1 y2 yq2 y3 yq3 y4 yq4 y5 yq5 hb0
  go_loopw [17] (fun _ wr => ∃ (t' : Tk3) (T' : List Tk3) (v : Value) (ts : List Tk3), IK B { name := t0.s, a := t0.a, b := t0.b } t' g v ts wr ∧ RdM wr rb T' n ∧ OnlyO rb (fun i => i = rb) w wr ∧ Hid (IPart d { name := t0.s, a := t0.a, b := t0.b } (t :: T) { name := t0.s, words := ts, a := t0.a, b := t0.b } (t' :: T')) ∧ ts.length ≤ 6 ∧ T'.length ≤ T.length ∧ (t'.k = 0 ∧ T' = [] ∨ t'.k ≠ 0 ∧ TEnd T')) (fun _ wr => lenR wr rb)
  case atStart => exact ⟨t, T, .slice none 0 0, [], HST.out, HR6.out, HO6.out, Lib.hid (IPart.start _ _ _), Nat.zero_le _, Nat.le_refl _, HE.out⟩
  case round =>
    rename_i wr
    obtain ⟨t', T', v, ts, hk, hr, ho, HRUN, hts, hTl, hend⟩ := hrel
    have HK := Lib.hid hk
    have HR := Lib.hid hr
    have HO := Lib.hid ho
    have HEND := Lib.hid hend
    have HTL := Lib.hid hTl
    have HTS := Lib.hid hts
    have c0 := hk.tok.c0; have c1 := hk.tok.c1; have c2 := hk.tok.c2; have c3 := hk.tok.c3; have c4 := hk.tok.c4
    have HBW : Hid (w.heap.size ≤ wr.heap.size) := Lib.hid ho.size
    have HRW : Hid (rb < w.heap.size) := Lib.hid (by have := HLT.out; have := HWB.out; omega)
    clear hk hr ho hend hTl hts
    by_cases hw : 1 ≤ t'.k ∧ t'.k ≤ 6
    · have HWD := Lib.hid (word_yes t' wr hw.1 hw.2)
      unfold tkA at HWD
      have HTE : Hid (TEnd T') := Lib.hid (by rcases HEND.out with ⟨e, _⟩ | ⟨_, e⟩; omega; exact e)
      obtain ⟨t3, T3, hT3, hend3⟩ := HTE.out.split
      subst hT3
      have HEND3 := Lib.hid hend3
      by_cases hl : ts.length = 6
      · have hlb : ((ts.length : Int) == 6) = true := by simp; omega
        obtain ⟨av, cv, hv⟩ := HK.out.row.size
        have HBAD := Lib.hid (HRUN.out.long (n := n) hw.1 hw.2 (by show 6 ≤ ts.length; omega))
        have HF := Lib.hid (fun W => fail_any 9 t' W)
        unfold tkA flies at HF
        rw [List.length_map] at hv
        subst hv
        clear hw hl hend3
        go_wp2_with (first
          | (go_at_call 89; (with_reducible refine (HWD.out).mono ?_); rintro e w1 ⟨rfl, g1⟩; have HK1 := Lib.hid (HK.out.after g1); have HO1 := Lib.hid (HO.out.past (g1.mono HBW.out) (Nat.le_of_lt HRW.out)); have d0 := HK1.out.tok.c0; have d1 := HK1.out.tok.c1; have d2 := HK1.out.tok.c2; have d3 := HK1.out.tok.c3; have d4 := HK1.out.tok.c4; have e1 := HK1.out.itm.c1; clear g1)
          | (go_at_call 88; (with_reducible refine (HF.out _).mono ?_); rintro e w2 ⟨rfl, g2⟩; have HO2 := Lib.hid (HO1.out.past (g2.mono HO1.out.size) (Nat.le_of_lt HRW.out)); clear g2))
        exact ⟨rfl, HO2.out, Or.inl ⟨_, _, _, HBAD.out, rfl⟩⟩
      · have hlb : ((ts.length : Int) == 6) = false := by simp; omega
        obtain ⟨av, cv, hv⟩ := HK.out.row.size
        have HWORD := Lib.hid (HRUN.out.word hw.1 hw.2 (by show ts.length < 6; have := HTS.out; omega))
        have HTS2 : Hid (ts.length < 6) := Lib.hid (by have := HTS.out; omega)
        rw [List.length_map] at hv
        subst hv
        clear hw hl hend3
        go_wp2_with (first
          | (go_at_call 89; (with_reducible refine (HWD.out).mono ?_); rintro e w1 ⟨rfl, g1⟩; have HK1 := Lib.hid (HK.out.after g1); have HO1 := Lib.hid (HO.out.past (g1.mono HBW.out) (Nat.le_of_lt HRW.out)); have HR1 := Lib.hid (HR.out.after g1); have d0 := HK1.out.tok.c0; have d1 := HK1.out.tok.c1; have d2 := HK1.out.tok.c2; have d3 := HK1.out.tok.c3; have d4 := HK1.out.tok.c4; have e1 := HK1.out.itm.c1; obtain ⟨gg, W2, hgg, hW2, u2, b2, zz2⟩ := tok_box w1 t'; have HK2 := Lib.hid (HK1.out.after b2); have CA : Hid (∀ j, j < 5 → W2.cell? ⟨gg, j, none⟩ = some ((tkV t').getD j undef)) := Lib.hid (tok_cells u2.c0 u2.c1 u2.c2 u2.c3 u2.c4); have HB2 := Lib.hid b2; have HL6 : Hid ((ts.map tkV).length ≤ 1000000) := Lib.hid (by rw [List.length_map]; have := HTS2.out; omega); have HSZ : Hid (g + 1 ≤ W2.heap.size) := Lib.hid HK2.out.tok.s; have HRG : Hid (rb < g) := Lib.hid (by have := HLT.out; have := HGB.out; omega); clear g1 u2 b2 zz2)
          | (at_builtin; (refine wp_rowK (T := 49) (t := 59) (sz := 5) rfl _ _ rfl Tryz.underlying49 info_tok rfl (by decide) (by decide) (g + 1) _ _ rfl HK2.out.row gg (tkV t') rfl rfl CA.out (tkV_one _) HL6.out HSZ.out ?_)))
        intro v' w3 hr3 ho3 hob
        obtain ⟨a3, c3', hv3⟩ := hr3.size
        obtain ⟨m, hm⟩ : ∃ m, (ts.map tkV ++ [tkV t']).length = m := ⟨_, rfl⟩
        rw [hm] at hv3
        subst hv3
        clear hm
        have HK3 := Lib.hid (HK2.out.word hr3 ho3)
        have HITM3 : Hid (Var6 w3 (B + 2) _ _ _ _ _ _) := Lib.hid (HK2.out.itm.stay (ho3.bel.block (B + 2) (by have := HGB.out; omega)) ho3.size)
        have i1 := HITM3.out.c1
        have iq := HITM3.out.q 1
        have HO3' : Hid (OnlyO rb (fun i => i = rb) w w3) := Lib.hid ((HO1.out.past (HB2.out.mono HO1.out.size) (Nat.le_of_lt HRW.out)).past (ho3.bel.mono (by have := HGB.out; have := HWB.out; omega)) (Nat.le_of_lt HRW.out))
        have HO4' := Lib.hid (HO3'.out.past ((Below.refl w.heap.size w3).setCell (p := ⟨B + 2, 1, none⟩) (by show w.heap.size ≤ B + 2; have := HWB.out; omega) (.slice a3 m c3')) (Nat.le_of_lt HRW.out))
        have HR3 : Hid (RdM (w3.setCell ⟨B + 2, 1, none⟩ (.slice a3 m c3')) rb (t3 :: T3) n) := Lib.hid (((HR1.out.after HB2.out).keep (fun i hi => ho3.bel.block i (by have := HRG.out; omega)) ho3.size).keep (fun i hi => sset_else _ _ _ _ _ (by have := HLT.out; omega)) (by simp))
        have HN6 := Lib.hid (next_any _ rb n t3 T3 HR3.out)
        unfold tkA at HN6
        clear hr3 ho3 hob hW2 hgg
        go_wp2_with (go_at_call 53; (with_reducible refine (HN6.out).mono ?_); rintro e w7 ⟨rfl, hr7, ho7⟩; have HK7 := Lib.hid (HK3.out.only ho7 HLT.out); have HR7 := Lib.hid hr7; have HO7 := Lib.hid (HO4'.out.step ho7); have k0 := HK7.out.tok.c0; have kq0 := HK7.out.tok.q 0; have k1 := HK7.out.tok.c1; have kq1 := HK7.out.tok.q 1; have k2 := HK7.out.tok.c2; have kq2 := HK7.out.tok.q 2; have k3 := HK7.out.tok.c3; have kq3 := HK7.out.tok.q 3; have k4 := HK7.out.tok.c4; have kq4 := HK7.out.tok.q 4; clear hr7 ho7)
        have HKN : Hid (IK B { name := t0.s, a := t0.a, b := t0.b } t3 g _ (ts ++ [t']) (put5 w7 g (.int .i64 t3.k) (.string t3.s) (.int .u64 t3.n) (.int .i64 t3.a) (.int .i64 t3.b))) := Lib.hid (HK7.out.next (t' := t3))
        have HBP : Hid (Below g w7 (put5 w7 g (.int .i64 t3.k) (.string t3.s) (.int .u64 t3.n) (.int .i64 t3.a) (.int .i64 t3.b))) := Lib.hid (below_put5 (Below.refl _ _) (Nat.le_refl _) _ _ _ _ _)
        have HRN2 : Hid (RdM (put5 w7 g (.int .i64 t3.k) (.string t3.s) (.int .u64 t3.n) (.int .i64 t3.a) (.int .i64 t3.b)) rb T3 n) := Lib.hid (HR7.out.keep (fun i hi => HBP.out.block i (by have := HRG.out; omega)) HBP.out.size)
        have HON : Hid (OnlyO rb (fun i => i = rb) w (put5 w7 g (.int .i64 t3.k) (.string t3.s) (.int .u64 t3.n) (.int .i64 t3.a) (.int .i64 t3.b))) := Lib.hid (HO7.out.past (HBP.out.mono (by have := HGB.out; have := HWB.out; omega)) (Nat.le_of_lt HRW.out))
        have HNU : Hid ((ts ++ [t']).length ≤ 6 ∧ T3.length < (t3 :: T3).length ∧ T3.length ≤ T.length) := Lib.hid (by
          have q5 := HTL.out; have q6 := HTS2.out
          rw [List.length_cons] at q5
          exact ⟨by rw [List.length_append, List.length_singleton]; omega, by simp, by omega⟩)
        have HLEN := Lib.hid (And.intro HR.out.len HRN2.out.len)
        go_roundw
        case rel => exact ⟨t3, T3, _, ts ++ [t'], HKN.out, HRN2.out, HON.out, Lib.hid HWORD.out, HNU.out.1, HNU.out.2.2, HEND3.out⟩
        case measure => exact (by have h1 := HLEN.out; have h2 := HNU.out.2.1; rw [← h1.1, ← h1.2] at h2; exact h2)
    · have HWD := Lib.hid (word_no t' wr (by omega))
      unfold tkA at HWD
      have HNW : Hid (t'.k < 1 ∨ 6 < t'.k) := Lib.hid (by omega)
      clear hw
      by_cases h9 : t'.k = 9
      · have h9b : (t'.k == 9) = true := by simpa using h9
        have HSTOP := Lib.hid (HRUN.out.stop (n := n) h9)
        have HTE : Hid (TEnd T') := Lib.hid (by rcases HEND.out with ⟨e, _⟩ | ⟨_, e⟩; omega; exact e)
        obtain ⟨av, cv, hv⟩ := HK.out.row.size
        rw [List.length_map] at hv
        subst hv
        clear h9
        go_wp2_with (go_at_call 89; (with_reducible refine (HWD.out).mono ?_); rintro e w1 ⟨rfl, g1⟩; have HK1 := Lib.hid (HK.out.after g1); have HO1 := Lib.hid (HO.out.past (g1.mono HBW.out) (Nat.le_of_lt HRW.out)); have HR1 := Lib.hid (HR.out.after g1); have d0 := HK1.out.tok.c0; have d1 := HK1.out.tok.c1; have d2 := HK1.out.tok.c2; have d3 := HK1.out.tok.c3; have d4 := HK1.out.tok.c4; have i0 := HK1.out.itm.c0; have i1 := HK1.out.itm.c1; have i2 := HK1.out.itm.c2; have i3 := HK1.out.itm.c3; have i4 := HK1.out.itm.c4; have i5 := HK1.out.itm.c5; have r0 := HK1.out.res.c0; have rq0 := HK1.out.res.q 0; have r1 := HK1.out.res.c1; have rq1 := HK1.out.res.q 1; have r2 := HK1.out.res.c2; have rq2 := HK1.out.res.q 2; have r3 := HK1.out.res.c3; have rq3 := HK1.out.res.q 3; have r4 := HK1.out.res.c4; have rq4 := HK1.out.res.q 4; have r5 := HK1.out.res.c5; have rq5 := HK1.out.res.q 5; clear g1)
        refine bodyPost_ret (item_results (HK1.out.res.put (.string t0.s) (.slice av ts.length cv) (.bool false) (.slice none 0 0) (.int .i64 t0.a) (.int .i64 t0.b)) rfl) rfl ?_
        refine ⟨HO1.out.put6 (by have := HWB.out; omega) (Nat.le_of_lt HRW.out) _ _ _ _ _ _, Or.inr ⟨({ name := t0.s, words := ts, a := t0.a, b := t0.b } : Hd).it false [], .slice av ts.length cv, .slice none 0 0, T', n, rfl, HSTOP.out, ?_, ItemsIs.none' _ _ _ _ _, ?_, Nat.le_refl _, HN3.out, HTE.out, Nat.le_trans HTL.out (Nat.le_succ _)⟩⟩
        · have := HK1.out.words (F := put6 w1 (B + 1) (.string t0.s) (.slice av ts.length cv) (.bool false) (.slice none 0 0) (.int .i64 t0.a) (.int .i64 t0.b)) (fun i hi _ => put6_else _ _ _ _ _ _ _ _ _ (by have := HGB.out; omega)) (Nat.le_of_eq (put6_size _ _ _ _ _ _ _ _).symm)
          rw [HWB.out]
          exact this
        · exact HR1.out.keep (fun i hi => put6_else _ _ _ _ _ _ _ _ _ (by have := HLT.out; omega)) (Nat.le_of_eq (put6_size _ _ _ _ _ _ _ _).symm)
      · have h9b : (t'.k == 9) = false := by simpa using h9
        by_cases h7 : t'.k = 7
        · have h7b : (t'.k == 7) = true := by simpa using h7
          have HTE : Hid (TEnd T') := Lib.hid (by rcases HEND.out with ⟨e, _⟩ | ⟨_, e⟩; omega; exact e)
          have HBLK := Lib.hid (fun n2 T2 L => HRUN.out.block (n := n) (n' := n2) (T' := T2) (L := L) h7)
          have HBAD := Lib.hid (fun c a b => HRUN.out.bad (n := n) (c := c) (a := a) (b := b) h7)
          obtain ⟨D, hD⟩ : ∃ D, d + 1 = D := ⟨_, rfl⟩
          have hLx := HL.out
          rw [hD] at hLx HBLK HBAD
          have HLX := Lib.hid hLx
          unfold ListOK at HLX
          have hi1 : IntKind.i64.wrap ((d : Int) + 1) = (D : Int) := by rw [IntKind.wrap_i64]; have := HD4.out; omega
          have HDD := Lib.hid hD
          obtain ⟨av, cv, hv⟩ := HK.out.row.size
          rw [List.length_map] at hv
          subst hv
          clear h7 h9 hLx hD
          go_wp2_with (first
            | (go_at_call 89; (with_reducible refine (HWD.out).mono ?_); rintro e w1 ⟨rfl, g1⟩; have HK1 := Lib.hid (HK.out.after g1); have HO1 := Lib.hid (HO.out.past (g1.mono HBW.out) (Nat.le_of_lt HRW.out)); have HR1 := Lib.hid (HR.out.after g1); have d0 := HK1.out.tok.c0; have d1 := HK1.out.tok.c1; have d2 := HK1.out.tok.c2; have d3 := HK1.out.tok.c3; have d4 := HK1.out.tok.c4; have i2 := HK1.out.itm.c2; have iq2 := HK1.out.itm.q 2; obtain ⟨W2, hW2⟩ : ∃ W, w1.setCell ⟨B + 2, 2, none⟩ (.bool true) = W := ⟨_, rfl⟩; have HSET : Hid (w1.setCell ⟨B + 2, 2, none⟩ (.bool true) = W2) := Lib.hid hW2; have HR2 : Hid (RdM W2 rb T' n) := Lib.hid (by rw [← HSET.out]; exact HR1.out.keep (fun i hi => sset_else _ _ _ _ _ (by have := HLT.out; omega)) (by simp)); clear g1)
            | (go_at_call 31; (with_reducible refine (HLX.out W2 rb T' n HR2.out HTE.out HN3.out).mono ?_)))
          intro e w2 hi
          obtain ⟨ho2, hi⟩ := hi
          have HO2 : Hid (OnlyO rb (fun i => i = rb) w W2) := Lib.hid (by rw [← HSET.out]; exact HO1.out.past ((Below.refl w.heap.size w1).setCell (p := ⟨B + 2, 2, none⟩) (by show w.heap.size ≤ B + 2; have := HWB.out; omega) (.bool true)) (Nat.le_of_lt HRW.out))
          rcases hi with ⟨c, a, b, hbad, rfl⟩ | ⟨L, v2, T2, n2, rfl, hdone, hit, hr2, hn2, hn23, hte2, htl2⟩
          · unfold flies
            go_wp2
            exact ⟨rfl, HO2.out.step ho2, Or.inl ⟨c, a, b, HBAD.out c a b hbad, rfl⟩⟩
          · obtain ⟨ak, ck, hv2⟩ := hit.size
            subst hv2
            have HIT := Lib.hid hit
            have HO3 := Lib.hid (HO2.out.step ho2)
            have HZ2 : Hid (B + 3 ≤ W2.heap.size) := Lib.hid (by have := HK1.out.itm.s; rw [← HSET.out]; simp; omega)
            have HI2 : Hid (Var6 w2 (B + 2) (.string t0.s) (.slice av ts.length cv) (.bool true) (.slice none 0 0) (.int .i64 t0.a) (.int .i64 t0.b)) := Lib.hid ((by rw [← HSET.out]; exact HK1.out.itm.set2 _ : Var6 W2 (B + 2) (.string t0.s) (.slice av ts.length cv) (.bool true) (.slice none 0 0) (.int .i64 t0.a) (.int .i64 t0.b)).stay (ho2.keep (B + 2) (by have := HZ2.out; omega) (fun e => by have := HLT.out; omega)) ho2.size)
            have HS2 : Hid (Var6 w2 (B + 1) (.string ⟨#[]⟩) (.slice none 0 0) (.bool false) (.slice none 0 0) (.int .i64 0) (.int .i64 0)) := Lib.hid ((by rw [← HSET.out]; exact HK1.out.res.stay (sset_else _ _ _ _ _ (by omega)) (by simp) : Var6 W2 (B + 1) (.string ⟨#[]⟩) (.slice none 0 0) (.bool false) (.slice none 0 0) (.int .i64 0) (.int .i64 0)).stay (ho2.keep (B + 1) (by have := HZ2.out; omega) (fun e => by have := HLT.out; omega)) ho2.size)
            obtain ⟨W3x, hW3⟩ : ∃ W, w2.setCell ⟨B + 2, 3, none⟩ (.slice ak L.length ck) = W := ⟨_, rfl⟩
            have HI3 : Hid (Var6 W3x (B + 2) (.string t0.s) (.slice av ts.length cv) (.bool true) (.slice ak L.length ck) (.int .i64 t0.a) (.int .i64 t0.b)) := Lib.hid (by rw [← hW3]; exact HI2.out.set3 _)
            have HS3 : Hid (Var6 W3x (B + 1) (.string ⟨#[]⟩) (.slice none 0 0) (.bool false) (.slice none 0 0) (.int .i64 0) (.int .i64 0)) := Lib.hid (by rw [← hW3]; exact HS2.out.stay (sset_else _ _ _ _ _ (by omega)) (by simp))
            have HSET3 : Hid (w2.setCell ⟨B + 2, 3, none⟩ (.slice ak L.length ck) = W3x) := Lib.hid hW3
            have HO3x : Hid (OnlyO rb (fun i => i = rb) w W3x) := Lib.hid (by rw [← hW3]; exact HO3.out.past ((Below.refl w.heap.size w2).setCell (p := ⟨B + 2, 3, none⟩) (by show w.heap.size ≤ B + 2; have := HWB.out; omega) (.slice ak L.length ck)) (Nat.le_of_lt HRW.out))
            have HRUN2 := Lib.hid (HBLK.out n2 T2 L hdone)
            have HR3 := Lib.hid hr2
            have HNN := Lib.hid (And.intro hn2 hn23)
            have HTE2 : Hid (TEnd T2) := Lib.hid (hte2 (by have := HDD.out; have := HD1.out; omega))
            have HTL2 := Lib.hid htl2
            have HO2' := Lib.hid ho2
            have i3 := HI2.out.c3; have iq3 := HI2.out.q 3
            have j0 := HI3.out.c0; have j1 := HI3.out.c1; have j2 := HI3.out.c2; have j3 := HI3.out.c3; have j4 := HI3.out.c4; have j5 := HI3.out.c5
            have r0 := HS3.out.c0; have rq0 := HS3.out.q 0; have r1 := HS3.out.c1; have rq1 := HS3.out.q 1; have r2 := HS3.out.c2; have rq2 := HS3.out.q 2; have r3 := HS3.out.c3; have rq3 := HS3.out.q 3; have r4 := HS3.out.c4; have rq4 := HS3.out.q 4; have r5 := HS3.out.c5; have rq5 := HS3.out.q 5
            clear hit ho2 hdone hr2 hn2 hn23 hte2 htl2 i2 iq2 hW2
            go_wp2
            refine bodyPost_ret (item_results (HS3.out.put (.string t0.s) (.slice av ts.length cv) (.bool true) (.slice ak L.length ck) (.int .i64 t0.a) (.int .i64 t0.b)) rfl) rfl ?_
            have hkeep : ∀ i, B + 3 ≤ i → i < w2.heap.size → (put6 W3x (B + 1) (.string t0.s) (.slice av ts.length cv) (.bool true) (.slice ak L.length ck) (.int .i64 t0.a) (.int .i64 t0.b)).heap[i]? = w2.heap[i]? := fun i hi _ => (put6_else _ _ _ _ _ _ _ _ _ (by omega)).trans (by rw [← HSET3.out]; exact sset_else _ _ _ _ _ (by omega))
            have hsz : (put6 W3x (B + 1) (.string t0.s) (.slice av ts.length cv) (.bool true) (.slice ak L.length ck) (.int .i64 t0.a) (.int .i64 t0.b)).heap.size = w2.heap.size := by rw [put6_size, ← HSET3.out]; simp
            refine ⟨HO3x.out.put6 (by have := HWB.out; omega) (Nat.le_of_lt HRW.out) _ _ _ _ _ _, Or.inr ⟨({ name := t0.s, words := ts, a := t0.a, b := t0.b } : Hd).it true L, .slice av ts.length cv, .slice ak L.length ck, T2, n2, rfl, HRUN2.out, ?_, ?_, ?_, HNN.out.1, HNN.out.2, HTE2.out, ?_⟩⟩
            · have h1 : w1.heap.size ≤ W2.heap.size := by rw [← HSET.out]; simp
              have := HK1.out.words (F := put6 W3x (B + 1) (.string t0.s) (.slice av ts.length cv) (.bool true) (.slice ak L.length ck) (.int .i64 t0.a) (.int .i64 t0.b)) (fun i hi hlt => (hkeep i (by have := HGB.out; omega) (Nat.lt_of_lt_of_le hlt (Nat.le_trans h1 HO2'.out.size))).trans ((HO2'.out.keep i (Nat.lt_of_lt_of_le hlt h1) (fun e => by have := HLT.out; have := HGB.out; omega)).trans (by rw [← HSET.out]; exact sset_else _ _ _ _ _ (by have := HGB.out; omega)))) (by rw [hsz]; exact Nat.le_trans h1 HO2'.out.size)
              rw [HWB.out]
              exact this
            · have e5 : 6 - D = 5 - d := by have := HDD.out; omega
              have := HIT.out
              rw [e5] at this
              refine ItemsIs.keep this (fun b hb => ⟨?_, ?_⟩) (fun b hb => hkeep b (by have := HZ2.out; omega) hb.2)
              · have := HZ2.out; have := HWB.out; omega
              · show b < (put6 W3x (B + 1) (.string t0.s) (.slice av ts.length cv) (.bool true) (.slice ak L.length ck) (.int .i64 t0.a) (.int .i64 t0.b)).heap.size
                rw [hsz]; exact hb.2
            · exact HR3.out.keep (fun i hi => (put6_else _ _ _ _ _ _ _ _ _ (by have := HLT.out; omega)).trans (by rw [← HSET3.out]; exact sset_else _ _ _ _ _ (by have := HLT.out; omega))) (Nat.le_of_eq hsz.symm)
            · have := HTL2.out; have := HTL.out
              simp only [List.length_cons]; omega
        · have h7b : (t'.k == 7) = false := by simpa using h7
          have HBAD := Lib.hid (HRUN.out.form (n := n) HNW.out h9 h7)
          have HF := Lib.hid (fun W => fail_any 6 t' W)
          unfold tkA flies at HF
          clear h9 h7
          go_wp2_with (first
            | (go_at_call 89; (with_reducible refine (HWD.out).mono ?_); rintro e w1 ⟨rfl, g1⟩; have HK1 := Lib.hid (HK.out.after g1); have HO1 := Lib.hid (HO.out.past (g1.mono HBW.out) (Nat.le_of_lt HRW.out)); have d0 := HK1.out.tok.c0; have d1 := HK1.out.tok.c1; have d2 := HK1.out.tok.c2; have d3 := HK1.out.tok.c3; have d4 := HK1.out.tok.c4; have e1 := HK1.out.itm.c1; clear g1)
            | (go_at_call 88; (with_reducible refine (HF.out _).mono ?_); rintro e w2 ⟨rfl, g2⟩; have HO2 := Lib.hid (HO1.out.past (g2.mono HO1.out.size) (Nat.le_of_lt HRW.out)); clear g2))
          exact ⟨rfl, HO2.out, Or.inl ⟨_, _, _, HBAD.out, rfl⟩⟩

end Go.Proofs.YtmgimkokmlcllaaGreatDoor
