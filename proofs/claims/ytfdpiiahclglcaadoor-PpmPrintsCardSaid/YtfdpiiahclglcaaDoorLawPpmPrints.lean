/-
  PpmPrints is proved: of any share ppm.Print gives its percents, and ppm.Read reads them; of any text (of up to 200 bytes) ppm.Read tells the share, or why there is none; no condition but that the listed tables of package unicode/utf8 read as their text lays them (the card ties that).
-/
import Derived.Test.YtfdpiiahclglcaaDoorRows
import Derived.Test.YtfdpiiahclglcaaDoorCards
import Derived.Test.YtfdpiiahclglcaaDoorTie
import Derived.Test.YtfdpiiahclglcaaDoorPpmU
import Derived.ProofKit
import Derived.OpenShut
import Derived.Below
import Derived.Lib.SmallJoins
import Derived.LaidMore
import Derived.Lay
import Derived.SevenTiedAt
import Derived.Stop.Joined
namespace Go.Proofs.YtfdpiiahclglcaaDoor
open Go.ChangeShapes Go.WideShapes Go.ChangeAt Go.RowKit Go.Joins
open Go.ChangeMaps (open_string shut_string)

set_option maxRecDepth 100000 in
theorem pprints_long (p : Int) (s : ByteArray) (w : World) (hs : 200 < s.size) (hm : s.size ≤ 9223372036854775807) :
    Calls Tryd.prog 3 #[.int .u32 p, .string s] w fun e w' => e = .returned (.bool true) ∧ Below w.heap.size w w' := by
  go_enter Tryd.func3, Tryd.ntmps3
  go_wp2_with (go_at_call 6; (with_reducible refine (ppm_awake _).mono ?_); rintro e w1 ⟨rfl, g1⟩)
  go_ret
  exact ⟨rfl, g1⟩

/-- A text is read alike by both, and printed again, if it is a share. -/
structure Alike (s : ByteArray) (N : Nat) (c : Int) : Prop where
  code : ∀ w, Calls Tryd.prog 8 #[.string s] w (GivesPC N c w)
  doc : ∀ w, Calls Tryd.prog 9 #[.string s] w (GivesPC N c w)
  back : (c = 0 ∧ ∀ w, Calls Tryd.prog 7 #[.int .u32 N] w fun e w' => e = .returned (.string s) ∧ Below w.heap.size w w') ∨ (c == 0) = false
theorem alike (s : ByteArray) (hm : s.size ≤ 9223372036854775807) : ∃ N c, Alike s N c := by
  obtain ⟨N, c, h1, h2, h3⟩ := (pread_cases s hm).same (rread_cases s hm)
  refine ⟨N, c, h1, h2, ?_⟩
  rcases h3 with ⟨h, hb, hN⟩ | ⟨_, h⟩
  · refine Or.inl ⟨h, fun w => ?_⟩
    have := pprint_any N w (by omega) (by omega)
    rw [Int.toNat_natCast, hb] at this
    exact this
  · exact Or.inr h

set_option maxRecDepth 100000 in
set_option maxHeartbeats 2000000 in
theorem pprints_fine (p : Int) (s : ByteArray) (N : Nat) (c : Int) (w : World) (h0 : 0 ≤ p) (hp : p ≤ 1000000) (hs : s.size ≤ 200) (hA : Alike s N c) :
    Calls Tryd.prog 3 #[.int .u32 p, .string s] w fun e w' => e = .returned (.bool true) ∧ Below w.heap.size w w' := by
  obtain ⟨T, hT⟩ : ∃ T, strOfNums (pct p.toNat) = T := ⟨_, rfl⟩
  have P1 := Lib.hid (fun w => pprint_any p w h0 hp)
  have P2 := Lib.hid (fun w => rpprint_any p w h0 hp)
  have P3 := Lib.hid ((pread_cases (strOfNums (pct p.toNat)) (by rw [strOfNums_size]; have := pct_len p.toNat (by omega); omega)).of_pct (by omega))
  rw [hT] at P1 P2 P3
  clear hT
  obtain ⟨R1, R2, R3⟩ := hA
  replace R1 := Lib.hid R1
  replace R2 := Lib.hid R2
  rcases R3 with ⟨rfl, R3⟩ | R3
  · replace R3 := Lib.hid R3
    go_enter Tryd.func3, Tryd.ntmps3
    go_wp2_with (first
      | (go_at_call 6; (with_reducible refine (ppm_awake _).mono ?_); rintro e w1 ⟨rfl, g1⟩; have DD := g1)
      | (go_at_call 7; (with_reducible refine (P1.out _).mono ?_); rintro e w2 ⟨rfl, g2⟩; have DD := below_step DD g2)
      | (go_at_call 8; (with_reducible refine (P3.out _).mono ?_); rintro e w3 ⟨q, rfl, q0, q1, q2, g3⟩; obtain rfl : p = q := (by omega); clear q2; have DD := below_step DD g3)
      | (go_at_call 8; (with_reducible refine (R1.out _).mono ?_); rintro e w4 ⟨x, rfl, x0, x1, x2, g4⟩; obtain rfl : x = (N : Int) := (by omega); clear x2; have DD := below_step DD g4)
      | (go_at_call 9; (with_reducible refine (R2.out _).mono ?_); rintro e w5 ⟨y, rfl, y0, y1, y2, g5⟩; obtain rfl : y = (N : Int) := (by omega); clear y2; have DD := below_step DD g5)
      | (go_at_call 10; (with_reducible refine (P2.out _).mono ?_); rintro e w6 ⟨rfl, g6⟩; have DD := below_step DD g6)
      | (go_at_call 7; (with_reducible refine (R3.out _).mono ?_); rintro e w7 ⟨rfl, g7⟩; have DD := below_step DD g7)
      | (go_at_call 11; (with_reducible refine (right_yes p _ hp).mono ?_); rintro e w8 ⟨rfl, rfl⟩)
      | (go_at_call 12; (with_reducible refine (rest_yes p _ h0 hp).mono ?_); rintro e w9 ⟨rfl, rfl⟩))
    go_ret
    exact ⟨rfl, DD⟩
  · go_enter Tryd.func3, Tryd.ntmps3
    go_wp2_with (first
      | (go_at_call 6; (with_reducible refine (ppm_awake _).mono ?_); rintro e w1 ⟨rfl, g1⟩; have DD := g1)
      | (go_at_call 7; (with_reducible refine (P1.out _).mono ?_); rintro e w2 ⟨rfl, g2⟩; have DD := below_step DD g2)
      | (go_at_call 8; (with_reducible refine (P3.out _).mono ?_); rintro e w3 ⟨q, rfl, q0, q1, q2, g3⟩; obtain rfl : p = q := (by omega); clear q2; have DD := below_step DD g3)
      | (go_at_call 8; (with_reducible refine (R1.out _).mono ?_); rintro e w4 ⟨x, rfl, x0, x1, x2, g4⟩; obtain rfl : x = (N : Int) := (by omega); clear x2; have DD := below_step DD g4)
      | (go_at_call 9; (with_reducible refine (R2.out _).mono ?_); rintro e w5 ⟨y, rfl, y0, y1, y2, g5⟩; obtain rfl : y = (N : Int) := (by omega); clear y2; have DD := below_step DD g5)
      | (go_at_call 10; (with_reducible refine (P2.out _).mono ?_); rintro e w6 ⟨rfl, g6⟩; have DD := below_step DD g6)
      | (go_at_call 11; (with_reducible refine (right_yes p _ hp).mono ?_); rintro e w8 ⟨rfl, rfl⟩)
      | (go_at_call 12; (with_reducible refine (rest_yes p _ h0 hp).mono ?_); rintro e w9 ⟨rfl, rfl⟩))
    go_ret
    exact ⟨rfl, DD⟩

set_option maxRecDepth 100000 in
set_option maxHeartbeats 2000000 in
theorem pprints_none (p : Int) (s : ByteArray) (N : Nat) (c : Int) (w : World) (hp : ¬ p ≤ 1000000) (hs : s.size ≤ 200) (hA : Alike s N c) :
    Calls Tryd.prog 3 #[.int .u32 p, .string s] w fun e w' => e = .returned (.bool true) ∧ Below w.heap.size w w' := by
  have P3 := Lib.hid ((pread_cases ⟨#[63]⟩ (by decide)).mark)

  have hp1 : 1000000 < p := by omega
  have hd : decide (p ≤ 1000000) = false := by simpa using hp1
  clear hp
  obtain ⟨R1, R2, R3⟩ := hA
  replace R1 := Lib.hid R1
  replace R2 := Lib.hid R2
  rcases R3 with ⟨rfl, R3⟩ | R3
  · replace R3 := Lib.hid R3
    go_enter Tryd.func3, Tryd.ntmps3
    go_wp2_with (first
      | (go_at_call 6; (with_reducible refine (ppm_awake _).mono ?_); rintro e w1 ⟨rfl, g1⟩; have DD := g1)
      | (go_at_call 7; (with_reducible refine (pprint_none p _ (by omega)).mono ?_); rintro e w2 ⟨rfl, rfl⟩)
      | (go_at_call 8; (with_reducible refine (P3.out _).mono ?_); rintro e w3 ⟨q, rfl, q0, q1, q2, g3⟩; obtain rfl : q = 0 := (by omega); clear q2; have DD := below_step DD g3)
      | (go_at_call 8; (with_reducible refine (R1.out _).mono ?_); rintro e w4 ⟨x, rfl, x0, x1, x2, g4⟩; obtain rfl : x = (N : Int) := (by omega); clear x2; have DD := below_step DD g4)
      | (go_at_call 9; (with_reducible refine (R2.out _).mono ?_); rintro e w5 ⟨y, rfl, y0, y1, y2, g5⟩; obtain rfl : y = (N : Int) := (by omega); clear y2; have DD := below_step DD g5)
      | (go_at_call 10; (with_reducible refine (rpprint_none p _ (by omega)).mono ?_); rintro e w6 ⟨rfl, rfl⟩)
      | (go_at_call 7; (with_reducible refine (R3.out _).mono ?_); rintro e w7 ⟨rfl, g7⟩; have DD := below_step DD g7)
      | (go_at_call 11; (with_reducible refine (right_no p _ (by omega)).mono ?_); rintro e w8 ⟨rfl, rfl⟩)
      | (go_at_call 12; (with_reducible refine (rest_no p _ (by omega)).mono ?_); rintro e w9 ⟨rfl, rfl⟩))
    go_ret
    exact ⟨rfl, DD⟩
  · go_enter Tryd.func3, Tryd.ntmps3
    go_wp2_with (first
      | (go_at_call 6; (with_reducible refine (ppm_awake _).mono ?_); rintro e w1 ⟨rfl, g1⟩; have DD := g1)
      | (go_at_call 7; (with_reducible refine (pprint_none p _ (by omega)).mono ?_); rintro e w2 ⟨rfl, rfl⟩)
      | (go_at_call 8; (with_reducible refine (P3.out _).mono ?_); rintro e w3 ⟨q, rfl, q0, q1, q2, g3⟩; obtain rfl : q = 0 := (by omega); clear q2; have DD := below_step DD g3)
      | (go_at_call 8; (with_reducible refine (R1.out _).mono ?_); rintro e w4 ⟨x, rfl, x0, x1, x2, g4⟩; obtain rfl : x = (N : Int) := (by omega); clear x2; have DD := below_step DD g4)
      | (go_at_call 9; (with_reducible refine (R2.out _).mono ?_); rintro e w5 ⟨y, rfl, y0, y1, y2, g5⟩; obtain rfl : y = (N : Int) := (by omega); clear y2; have DD := below_step DD g5)
      | (go_at_call 10; (with_reducible refine (rpprint_none p _ (by omega)).mono ?_); rintro e w6 ⟨rfl, rfl⟩)
      | (go_at_call 11; (with_reducible refine (right_no p _ (by omega)).mono ?_); rintro e w8 ⟨rfl, rfl⟩)
      | (go_at_call 12; (with_reducible refine (rest_no p _ (by omega)).mono ?_); rintro e w9 ⟨rfl, rfl⟩))
    go_ret
    exact ⟨rfl, DD⟩

theorem pprints_walk (p : Int) (s : ByteArray) (w : World) (h0 : 0 ≤ p) (hm : s.size ≤ 9223372036854775807) :
    Calls Tryd.prog 3 #[.int .u32 p, .string s] w fun e w' => e = .returned (.bool true) ∧ Below w.heap.size w w' := by
  by_cases hl : 200 < s.size
  · exact pprints_long p s w hl hm
  · obtain ⟨N, c, hA⟩ := alike s hm
    by_cases hp : p ≤ 1000000
    · exact pprints_fine p s N c w h0 hp (by omega) hA
    · exact pprints_none p s N c w hp (by omega) hA

theorem ppm_own : ownKnob Tryd.prog.godebug = none := by kernel_rfl
theorem pprints_word (x : Int) (h : (Lit.int .u32 x).wf = true) : 0 ≤ x ∧ x ≤ 4294967295 := by
  simpa [Lit.wf, IntKind.min, IntKind.max, IntKind.signed, IntKind.bits] using h

set_option maxRecDepth 100000 in
theorem pprints_lifted (os : Os) (started : os.Started) (H : Type) (enc : TypeId × Value → H) :
    ReturnsInHanded {} Tryd.checked os 3 .any (fun w args => (Rows.ppmPrintsSpec.pre enc Tryd.prog Tryd.f3 Rows.ppmPrintsRow.domain false w args ∧ laidMetH Tryd.prog Rows.ppmPrintsRow.laid w) ∧ sizedMet enc Tryd.prog Tryd.f3 (OpenSpec.ofChange Rows.ppmPrintsSpec) false w args)
      (Rows.ppmPrintsSpec.post enc Tryd.prog Tryd.f3 false true false false) := by
  refine returnsInHanded_of_change_and (C := Tryd.checked) (X := fun w _ => laidMetH Tryd.prog Rows.ppmPrintsRow.laid w) (fun _ _ _ hh h => h.of_heap hh) ppm_own started (by kernel_rfl) Tryd.func3
    (ChangeSpec.witness_shaped (enc := enc) (C := Tryd.checked) (os := os) (X := fun w _ => laidMetH Tryd.prog Rows.ppmPrintsRow.laid w) false (World.laidAll Tryd.prog os Rows.ppmPrintsRow.laid) #[.int .u32 0, .string ⟨#[]⟩] 8 (World.laidAll_os _ _ _)
      (World.shaped_of_ZipB (by kernel_rfl) (by kernel_rfl)) (by kernel_rfl) (by kernel_rfl) (by kernel_rfl)
      (by rw [MakeChecks.laidMetH_plain _ _ _ (by kernel_rfl)]; exact laidMet_laidAll _ (by kernel_rfl) (by kernel_rfl))) ?_
  intro W base args ds gs before hval0 hW _ _ _ _
  have hval : ∀ (j : Nat) t v, Tryd.f3.params[j]? = some t → args[j]? = some v → Value.okWide Tryd.prog W .any base t v := hval0
  have hW' := hW
  obtain ⟨p, q, hA0, hV, rfl, hfz, hnd⟩ := hW
  have hA : DataW.TrodAll enc Tryd.prog W 0 (fun _ => true) true Tryd.f3.params.toList args.toList ds p := hA0
  rw [Tryd.params3] at hA hval
  obtain ⟨v0, v1, d0, d1, p0, p1, rfl, rfl, rfl, h0, h1⟩ := trodAll_two hA
  obtain ⟨rfl, rfl⟩ := trodVars_none hV
  obtain ⟨x, rfl, rfl, rfl, wx⟩ := open_int Tryd.underlying22 (hval 0 22 v0 rfl rfl) h0
  obtain ⟨s, rfl, rfl, rfl, ws⟩ := open_string Tryd.underlying9 (hval 1 9 v1 rfl rfl) h1
  clear hA0 hval0
  simp only [List.append_nil] at hW'
  refine (pprints_walk x s W (pprints_word x wx).1 (by have := ws; unfold maxLen at this; omega)).mono fun e W' ⟨he, bel⟩ => ?_
  subst he
  exact ⟨_, rfl, _, _, _, [], [], [], hW', trodAll_mk1 (shut_bool Tryd.underlying4 _), trodAll_mk2 (shut_int Tryd.underlying22 wx) (shut_string Tryd.underlying9 ws), rfl, bel.frame _, fun h => by cases h⟩

theorem pprints_over : Rows.ppmPrintsRow.holds Tryd.pinned (OpenSpec.ofChange Rows.ppmPrintsSpec) :=
  OpenClaim.holds_of_wide 3 Tryd.f3 rfl rfl rfl rfl rfl rfl rfl ⟨rfl, rfl, rfl, rfl, rfl⟩ rfl rfl rfl rfl rfl (by kernel_rfl) Tryd.func3 (by kernel_rfl)
    (of_decide_eq_true (by kernel_rfl)) (by unfold Func.isWrapper; first | (rw [if_pos (by decide +kernel)]; kernel_rfl) | (rw [if_neg (by decide +kernel)]; exact ⟨rfl, rfl⟩))
    (fun os started H enc _ => pprints_lifted os started H enc)

set_option maxRecDepth 100000 in
/-- The statement. -/
theorem ppm_prints_proved : Rows.PpmPrintsCardSaid :=
  Claim7.holds_tied_plain_at .later [] [.data, .pinned] true Rows.ppmPrintsCard.stood.harness false pprints_over (fun _ h => by cases h) (by kernel_rfl) (fun _ h => by cases h) ppmPrints_row_tie rfl ⟨rfl, rfl⟩ (by kernel_rfl) rfl
    (fun f fn hf hfn => by
      obtain rfl : f = 3 := Option.some.inj ((show Tryd.prog.funcNamed "firebell/firebelllaw03.PpmPrints" = some 3 by kernel_rfl).symm.trans hf) |>.symm
      obtain rfl : fn = Tryd.f3 := (Option.some.inj (Tryd.func3.symm.trans hfn)).symm
      exact ⟨by kernel_rfl, fun j t ht => by
        rw [Tryd.params3] at ht
        have hm : t ∈ [22, 9] := by simpa using Array.mem_of_getElem? ht
        have hall : ([22, 9].all fun u => !Tryd.prog.wantsStandIn u) = true := by kernel_rfl
        exact (show Tryd.prog.wantsStandIn t = false by simpa using List.all_eq_true.1 hall t hm)⟩)
    (by kernel_rfl)

end Go.Proofs.YtfdpiiahclglcaaDoor
