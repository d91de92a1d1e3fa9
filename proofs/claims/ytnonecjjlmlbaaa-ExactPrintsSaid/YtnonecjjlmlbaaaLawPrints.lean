/-
  ExactPrints is proved: of any number of 128 bits exact.Print gives its decimal digits, and exact.Read reads them; of any text (of up to 200 bytes) exact.Read tells the number, or why there is none; no condition.
-/
import Derived.Test.YtnonecjjlmlbaaaRows
import Derived.Test.YtnonecjjlmlbaaaBoxes
import Derived.Test.YtnonecjjlmlbaaaAwake
import Derived.Test.YtnonecjjlmlbaaaReadB
import Derived.Test.YtnonecjjlmlbaaaRefG
import Derived.Test.YtnonecjjlmlbaaaRefH
import Derived.ProofKit
import Derived.OpenShut
import Derived.Below
import Derived.Lib.SmallJoins
namespace Go.Proofs.Ytnonecjjlmlbaaa
open Go.ChangeShapes Go.WideShapes Go.ChangeAt Go.RowKit Go.Joins
open Go.ChangeMaps (open_string shut_string)

/-- What is printed is read. -/
theorem read_back (A : Nat) (w : World) (hA : W128 A) : Calls Try.prog 27 #[.string (strOfNums (dec A))] w (GivesWC A 0 w) := by
  have hs : (strOfNums (dec A)).size ≤ 9223372036854775807 := by rw [strOfNums_size]; have := dec_len hA; omega
  have h := eread_yes (strOfNums (dec A)) w hs (by rw [dec_str]; exact dec_dg A)
  rw [dec_str, numOf_dec, capN_in hA, capC_in hA] at h
  exact h
theorem digits_is (A : Nat) (v : Value) (l : List Bool) (w : World) (hv : Bools w v l) (hl : l.length ≤ 100000) (hA : W128 A) (he : val l = A) :
    Calls Try.prog 29 #[v] w fun e w' => e = .returned (.string (strOfNums (dec A))) ∧ Below w.heap.size w w' := by
  subst he; exact digits_any v l w hv hl hA
theorem print_is (h l : Int) (A : Nat) (s : ByteArray) (w : World) (hA : IsW h l A) (hs : strOfNums (dec A) = s) :
    Calls Try.prog 26 #[.agg #[.int .u64 h, .int .u64 l]] w fun e w' => e = .returned (.string s) ∧ Below w.heap.size w w' := by
  rw [← hs]; exact print_any h l A w hA

set_option maxRecDepth 100000 in
theorem prints_long (ah al : Int) (s : ByteArray) (w : World) (hs : 200 < s.size) (hm : s.size ≤ 9223372036854775807) :
    Calls Try.prog 7 #[.agg #[.int .u64 ah, .int .u64 al], .string s] w fun e w' => e = .returned (.bool true) ∧ Below w.heap.size w w' := by
  go_enter Try.func7, Try.ntmps7
  go_wp2_with (go_at_call 8; (with_reducible refine (awake_any _).mono ?_); rintro e w1 ⟨rfl, g1⟩; have DD1 := below_step (below_more (Below.refl w.heap.size w) _) g1)
  go_ret
  exact ⟨rfl, DD1⟩

set_option maxRecDepth 100000 in
set_option maxHeartbeats 4000000 in
theorem prints_fine (ah al : Int) (A N : Nat) (s : ByteArray) (w : World) (hA : IsW ah al A) (hs : s.size ≤ 200) (r1 : ∀ w, Calls Try.prog 27 #[.string s] w (GivesWC N 0 w)) (r2 : ∀ w, Calls Try.prog 28 #[.string s] w (GivesWC N 0 w)) (hback : strOfNums (dec N) = s) :
    Calls Try.prog 7 #[.agg #[.int .u64 ah, .int .u64 al], .string s] w fun e w' => e = .returned (.bool true) ∧ Below w.heap.size w w' := by
  have HA := Lib.hid hA
  have R1 := Lib.hid r1
  have R2 := Lib.hid r2
  replace hback := Lib.hid hback
  clear hA r1 r2
  go_enter Try.func7, Try.ntmps7
  go_wp2_with (first
    | (go_at_call 8; (with_reducible refine (awake_any _).mono ?_); rintro e w1 ⟨rfl, g1⟩; have Ka1 := Lib.hid ((Box.fresh w ah al _ rfl).after g1); obtain ⟨_, _, _⟩ := Ka1.out; have DD1 := below_step (below_more (Below.refl _ _) _) g1)
    | (go_at_call 26; (with_reducible refine (print_any ah al A _ HA.out).mono ?_); rintro e w2 ⟨rfl, g2⟩; have Ka2 := Lib.hid (Ka1.out.after g2); obtain ⟨_, _, _⟩ := Ka2.out; have DD2 := below_step DD1 g2)
    | (go_at_call 27; (with_reducible refine (read_back A _ HA.out.lt).mono ?_); rintro e w3 ⟨bh, bl, rfl, hW3, g3⟩; have Ka3 := Lib.hid (Ka2.out.after g3); obtain ⟨_, _, _⟩ := Ka3.out; have DD3 := below_step DD2 g3; obtain ⟨rfl, rfl⟩ := hW3.unique HA.out; clear hW3)
    | (go_at_call 27; (with_reducible refine (R1.out _).mono ?_); rintro e w4 ⟨xh, xl, rfl, hW4, g4⟩; have Ka4 := Lib.hid (((Ka3.out).alloc _).after g4); obtain ⟨_, _, _⟩ := Ka4.out; have Kb4 := Lib.hid ((Box.fresh w3 bh bl _ rfl).after g4); obtain ⟨_, _, _⟩ := Kb4.out; have DD4 := below_step (below_more DD3 _) g4)
    | (go_at_call 28; (with_reducible refine (R2.out _).mono ?_); rintro e w5 ⟨yh, yl, rfl, hW5, g5⟩; have Ka5 := Lib.hid (((Ka4.out).alloc _).after g5); obtain ⟨_, _, _⟩ := Ka5.out; have Kb5 := Lib.hid (((Kb4.out).alloc _).after g5); obtain ⟨_, _, _⟩ := Kb5.out; have Kx5 := Lib.hid ((Box.fresh w4 xh xl _ rfl).after g5); obtain ⟨_, _, _⟩ := Kx5.out; have DD5 := below_step (below_more DD4 _) g5; obtain ⟨rfl, rfl⟩ := hW5.unique hW4; clear hW5)
    | (go_at_call 9; (with_reducible refine (bits_any bh bl _ HA.out.h0 HA.out.h1 HA.out.l0 HA.out.l1).mono ?_); rintro e w6 ⟨va, la, rfl, ka, ⟨na, ea⟩, g6⟩; have Ka6 := Lib.hid (((Ka5.out).alloc _).after g6); obtain ⟨_, _, _⟩ := Ka6.out; have Kb6 := Lib.hid (((Kb5.out).alloc _).after g6); obtain ⟨_, _, _⟩ := Kb6.out; have Kx6 := Lib.hid (((Kx5.out).alloc _).after g6); obtain ⟨_, _, _⟩ := Kx6.out; have Ky6 := Lib.hid ((Box.fresh w5 yh yl _ rfl).after g6); obtain ⟨_, _, _⟩ := Ky6.out; have DD6 := below_step (below_more DD5 _) g6; replace ea := Lib.hid (ea.trans HA.out.num); replace na := Lib.hid na; replace ka := Lib.hid ka)
    | (go_at_call 29; (with_reducible refine (digits_is A va la _ ka.out (by have := na.out; omega) HA.out.lt ea.out).mono ?_); rintro e w7 ⟨rfl, g7⟩; have Ka7 := Lib.hid (Ka6.out.after g7); obtain ⟨_, _, _⟩ := Ka7.out; have Kb7 := Lib.hid (Kb6.out.after g7); obtain ⟨_, _, _⟩ := Kb7.out; have Kx7 := Lib.hid (Kx6.out.after g7); obtain ⟨_, _, _⟩ := Kx7.out; have Ky7 := Lib.hid (Ky6.out.after g7); obtain ⟨_, _, _⟩ := Ky7.out; have DD7 := below_step DD6 g7)
    | (go_at_call 26; (with_reducible refine (print_is yh yl N s _ hW4 hback.out).mono ?_); rintro e w8 ⟨rfl, g8⟩; have Ka8 := Lib.hid (Ka7.out.after g8); obtain ⟨_, _, _⟩ := Ka8.out; have Kb8 := Lib.hid (Kb7.out.after g8); obtain ⟨_, _, _⟩ := Kb8.out; have Kx8 := Lib.hid (Kx7.out.after g8); obtain ⟨_, _, _⟩ := Kx8.out; have Ky8 := Lib.hid (Ky7.out.after g8); obtain ⟨_, _, _⟩ := Ky8.out; have DD8 := below_step DD7 g8))
  go_ret
  exact ⟨rfl, DD8⟩

set_option maxRecDepth 100000 in
set_option maxHeartbeats 4000000 in
theorem prints_none (ah al : Int) (A N : Nat) (c : Int) (s : ByteArray) (w : World) (hA : IsW ah al A) (hs : s.size ≤ 200) (r1 : ∀ w, Calls Try.prog 27 #[.string s] w (GivesWC N c w)) (r2 : ∀ w, Calls Try.prog 28 #[.string s] w (GivesWC N c w)) (hc : (c == 0) = false) :
    Calls Try.prog 7 #[.agg #[.int .u64 ah, .int .u64 al], .string s] w fun e w' => e = .returned (.bool true) ∧ Below w.heap.size w w' := by
  have HA := Lib.hid hA
  have R1 := Lib.hid r1
  have R2 := Lib.hid r2
  have hc2 : (c != 0) = true := by simpa using hc
  clear hA r1 r2
  go_enter Try.func7, Try.ntmps7
  go_wp2_with (first
    | (go_at_call 8; (with_reducible refine (awake_any _).mono ?_); rintro e w1 ⟨rfl, g1⟩; have Ka1 := Lib.hid ((Box.fresh w ah al _ rfl).after g1); obtain ⟨_, _, _⟩ := Ka1.out; have DD1 := below_step (below_more (Below.refl _ _) _) g1)
    | (go_at_call 26; (with_reducible refine (print_any ah al A _ HA.out).mono ?_); rintro e w2 ⟨rfl, g2⟩; have Ka2 := Lib.hid (Ka1.out.after g2); obtain ⟨_, _, _⟩ := Ka2.out; have DD2 := below_step DD1 g2)
    | (go_at_call 27; (with_reducible refine (read_back A _ HA.out.lt).mono ?_); rintro e w3 ⟨bh, bl, rfl, hW3, g3⟩; have Ka3 := Lib.hid (Ka2.out.after g3); obtain ⟨_, _, _⟩ := Ka3.out; have DD3 := below_step DD2 g3; obtain ⟨rfl, rfl⟩ := hW3.unique HA.out; clear hW3)
    | (go_at_call 27; (with_reducible refine (R1.out _).mono ?_); rintro e w4 ⟨xh, xl, rfl, hW4, g4⟩; have Ka4 := Lib.hid (((Ka3.out).alloc _).after g4); obtain ⟨_, _, _⟩ := Ka4.out; have Kb4 := Lib.hid ((Box.fresh w3 bh bl _ rfl).after g4); obtain ⟨_, _, _⟩ := Kb4.out; have DD4 := below_step (below_more DD3 _) g4)
    | (go_at_call 28; (with_reducible refine (R2.out _).mono ?_); rintro e w5 ⟨yh, yl, rfl, hW5, g5⟩; have Ka5 := Lib.hid (((Ka4.out).alloc _).after g5); obtain ⟨_, _, _⟩ := Ka5.out; have Kb5 := Lib.hid (((Kb4.out).alloc _).after g5); obtain ⟨_, _, _⟩ := Kb5.out; have Kx5 := Lib.hid ((Box.fresh w4 xh xl _ rfl).after g5); obtain ⟨_, _, _⟩ := Kx5.out; have DD5 := below_step (below_more DD4 _) g5; obtain ⟨rfl, rfl⟩ := hW5.unique hW4; clear hW5)
    | (go_at_call 9; (with_reducible refine (bits_any bh bl _ HA.out.h0 HA.out.h1 HA.out.l0 HA.out.l1).mono ?_); rintro e w6 ⟨va, la, rfl, ka, ⟨na, ea⟩, g6⟩; have Ka6 := Lib.hid (((Ka5.out).alloc _).after g6); obtain ⟨_, _, _⟩ := Ka6.out; have Kb6 := Lib.hid (((Kb5.out).alloc _).after g6); obtain ⟨_, _, _⟩ := Kb6.out; have Kx6 := Lib.hid (((Kx5.out).alloc _).after g6); obtain ⟨_, _, _⟩ := Kx6.out; have Ky6 := Lib.hid ((Box.fresh w5 yh yl _ rfl).after g6); obtain ⟨_, _, _⟩ := Ky6.out; have DD6 := below_step (below_more DD5 _) g6; replace ea := Lib.hid (ea.trans HA.out.num); replace na := Lib.hid na; replace ka := Lib.hid ka)
    | (go_at_call 29; (with_reducible refine (digits_is A va la _ ka.out (by have := na.out; omega) HA.out.lt ea.out).mono ?_); rintro e w7 ⟨rfl, g7⟩; have Ka7 := Lib.hid (Ka6.out.after g7); obtain ⟨_, _, _⟩ := Ka7.out; have Kb7 := Lib.hid (Kb6.out.after g7); obtain ⟨_, _, _⟩ := Kb7.out; have Kx7 := Lib.hid (Kx6.out.after g7); obtain ⟨_, _, _⟩ := Kx7.out; have Ky7 := Lib.hid (Ky6.out.after g7); obtain ⟨_, _, _⟩ := Ky7.out; have DD7 := below_step DD6 g7))
  go_ret
  exact ⟨rfl, DD7⟩


theorem prints_walk (ah al : Int) (A : Nat) (s : ByteArray) (w : World) (hA : IsW ah al A) (hm : s.size ≤ 9223372036854775807) :
    Calls Try.prog 7 #[.agg #[.int .u64 ah, .int .u64 al], .string s] w fun e w' => e = .returned (.bool true) ∧ Below w.heap.size w w' := by
  by_cases hl : 200 < s.size
  · exact prints_long ah al s w hl hm
  · by_cases hd : Dg (nums s)
    · by_cases hN : W128 (numOf (nums s))
      · have r1 := fun w => eread_yes s w hm hd
        have r2 := fun w => refread_yes s w hm hd
        rw [capN_in hN, capC_in hN] at r1 r2
        exact prints_fine ah al A (numOf (nums s)) s w hA (by omega) r1 r2 (str_back hd)
      · have r1 := fun w => eread_yes s w hm hd
        have r2 := fun w => refread_yes s w hm hd
        rw [capN_out hN, capC_out hN] at r1 r2
        exact prints_none ah al A 0 3 s w hA (by omega) r1 r2 rfl
    · have r1 := fun w => eread_no s w hm hd
      have r2 : ∀ w, Calls Try.prog 28 #[.string s] w (GivesWC 0 5 w) := fun w => by
        by_cases h0 : s.size = 0
        · have hs : s = ⟨#[]⟩ := by
            have hn : nums s = [] := List.eq_nil_of_length_eq_zero (by rw [nums_length, h0])
            rw [← strOfNums_nums s, hn]; rfl
          rw [hs]; exact refread_empty w
        · by_cases hh : (s[0].toNat : Int) = 48
          · by_cases h1 : s.size = 1
            · have hz := toList_nought h1 (by rw [nums_at s 0 (by omega)]; exact hh)
              refine (hd ?_).elim
              rw [hz]
              refine ⟨by decide, fun _ => rfl, fun i hi => ?_⟩
              obtain rfl : i = 0 := by simp [nums] at hi; omega
              decide
            · exact refread_ahead s w hm (by omega) hh
          · exact refread_bad s w hm (by omega) hh hd
      exact prints_none ah al A 0 5 s w hA (by omega) r1 r2 rfl

theorem prints_own : ownKnob Try.prog.godebug = none := by kernel_rfl
theorem prints_cells : Try.prog.cellsOf 24 = 2 := by kernel_rfl
theorem prints_word (x : Int) (h : (Lit.int .u64 x).wf = true) : 0 ≤ x ∧ x ≤ 18446744073709551615 := by
  have := bounds_u64 h; omega

set_option maxRecDepth 100000 in
theorem prints_lifted (os : Os) (started : os.Started) (H : Type) (enc : TypeId × Value → H) :
    ReturnsInHanded {} Try.checked os 7 .any (Rows.exactPrintsSpec.pre6 enc Try.prog Try.f7 Rows.exactPrintsRow.domain false) (Rows.exactPrintsSpec.post enc Try.prog Try.f7 false true false false) := by
  refine returnsInHanded_of_change (C := Try.checked) prints_own started (by kernel_rfl) Try.func7
    (ChangeSpec.witness6 (enc := enc) (C := Try.checked) false ⟨#[], #[.agg #[.int .u64 0, .int .u64 0], .string ⟨#[]⟩], []⟩ 8 (by kernel_rfl) (by kernel_rfl) (by kernel_rfl) (by kernel_rfl)) ?_
  intro W base args ds gs before hval0 hW hcnd _
  have hval : ∀ (j : Nat) t v, Try.f7.params[j]? = some t → args[j]? = some v → Value.okWide Try.prog W .any base t v := hval0
  have hW' := hW
  obtain ⟨p, q, hA0, hV, rfl, hfz, hnd⟩ := hW
  have hA : DataW.TrodAll enc Try.prog W 0 (fun _ => true) true Try.f7.params.toList args.toList ds p := hA0
  rw [Try.params7] at hA hval
  obtain ⟨v0, v1, d0, d1, p0, p1, rfl, rfl, rfl, h0, h1⟩ := trodAll_two hA
  obtain ⟨rfl, rfl⟩ := trodVars_none hV
  obtain ⟨c0, c1, y0, y1, m0, rfl, rfl, rfl, hy0, hy1⟩ := open_agg2 Try.underlying24 (by kernel_rfl) prints_cells (hval 0 24 v0 rfl rfl) h0
  obtain ⟨ah, e0, rfl, wah⟩ := DataW.trod_int Try.underlying22 hy0
  obtain ⟨al, e1, rfl, wal⟩ := DataW.trod_int Try.underlying22 hy1
  obtain ⟨s, rfl, rfl, rfl, ws⟩ := open_string Try.underlying9 (hval 1 9 v1 rfl rfl) h1
  simp at e0 e1
  subst e0 e1
  clear hA0 hval0
  simp only [List.append_nil] at hW'
  have structReads : ∀ (W' : World) (sp : Nat → Bool) (x y : Int), (Lit.int .u64 x).wf = true → (Lit.int .u64 y).wf = true → DataW.Trod enc Try.prog W' 0 sp true 24 (.agg #[.int .u64 x, .int .u64 y]) (.agg [.lit (.int .u64 x), .lit (.int .u64 y)]) [] := fun W' sp x y wx wy =>
    shut_agg2 (y0 := (.lit (.int .u64 x), [])) (y1 := (.lit (.int .u64 y), [])) Try.underlying24 (by kernel_rfl) prints_cells ⟨1, by simp [DataW.trod, Try.underlying22, wx]⟩ ⟨1, by simp [DataW.trod, Try.underlying22, wy]⟩
  refine (prints_walk ah al _ s W (IsW.of (prints_word ah wah).1 (prints_word ah wah).2 (prints_word al wal).1 (prints_word al wal).2) (by have := ws; unfold maxLen at this; omega)).mono fun e W' ⟨he, bel⟩ => ?_
  subst he
  exact ⟨_, rfl, _, _, _, [], [], [], hW', trodAll_mk1 (shut_bool Try.underlying4 _), trodAll_mk2 (structReads _ _ ah al wah wal) (shut_string Try.underlying9 ws), rfl, bel.frame _, fun h => by cases h⟩

theorem prints_over : Rows.exactPrintsRow.holds Try.pinned (OpenSpec.ofChange Rows.exactPrintsSpec) :=
  OpenClaim.holds_of_wide 7 Try.f7 rfl rfl rfl rfl rfl rfl rfl ⟨rfl, rfl, rfl, rfl, rfl⟩ rfl rfl rfl rfl rfl (by kernel_rfl) Try.func7 (by kernel_rfl)
    (of_decide_eq_true (by kernel_rfl)) (by unfold Func.isWrapper; first | (rw [if_pos (by decide +kernel)]; kernel_rfl) | (rw [if_neg (by decide +kernel)]; exact ⟨rfl, rfl⟩))
    (fun os started H enc _ => prints_lifted os started H enc)

/-- The statement. -/
theorem exact_prints_proved : Rows.ExactPrintsSaid := prints_over

end Go.Proofs.Ytnonecjjlmlbaaa
