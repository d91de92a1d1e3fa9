/-
  SignedPrints is proved: of any number with a sign signed.Print gives its digits, and signed.Read reads them; of any text (of up to 200 bytes) signed.Read tells the number, or why there is none; no condition.
-/
import Derived.Test.YtcdafppnfflmcaaRows
import Derived.Test.YtcdafppnfflmcaaSgE
import Derived.Test.YtcdafppnfflmcaaSgAwake
import Derived.Test.YtcdafppnfflmcaaSgOpen
import Derived.Below
namespace Go.Proofs.Ytcdafppnfflmcaa
open Go.ChangeShapes Go.WideShapes Go.ChangeAt Go.RowKit Go.Joins
open Go.ChangeMaps (open_string shut_string)

/-- What is printed is read by exact. -/
theorem sg_read_back (A : Nat) (w : World) (hA : W128 A) : Calls Try.prog 31 #[.string (strOfNums (dec A))] w (GivesWC A 0 w) := by
  have hs : (strOfNums (dec A)).size ≤ 9223372036854775807 := by rw [strOfNums_size]; have := dec_len hA; omega
  have h := eread_yes (strOfNums (dec A)) w hs (by rw [dec_str]; exact dec_dg A)
  rw [dec_str, numOf_dec, capN_in hA, capC_in hA] at h
  exact h
theorem dec_no_minus (A : Nat) (d : ByteArray) : ¬ Minus (strOfNums (dec A)) d := by
  intro h
  have hn := h.nums
  rw [dec_str] at hn
  have := dec_byte A 45 (by rw [hn]; simp)
  omega
theorem minus_dec (A : Nat) : Minus (strOfNums (45 :: dec A)) (strOfNums (dec A)) := by
  rw [← minus_ahead]; rfl
/-- What is printed is read. -/
theorem sprint_back (b : Bool) (h l : Int) (A : Nat) (w : World) (hA : IsW h l A) :
    Calls Try.prog 47 #[.string (strOfNums (decS b A))] w fun e w' => e = .returned (.tuple #[.agg #[.bool (downB b A), .int .u64 h, .int .u64 l], .int .i64 0]) ∧ Below w.heap.size w w' := by
  cases hd : downB b A
  · rw [decS_up hd]
    refine (sread_up _ A 0 w (dec_no_minus A) (fun w => sg_read_back A w hA.lt) (Or.inl rfl)).mono ?_
    rintro e w' ⟨b', h', l', rfl, hZ, g⟩
    obtain ⟨rfl, rfl, rfl⟩ := hZ.unique (show IsZ false h l (A : Int) from ⟨by simp, by simpa using hA⟩)
    exact ⟨rfl, g⟩
  · have h0 : 0 < A := by
      have : b = true ∧ ¬ A = 0 := by simpa [downB] using hd
      omega
    rw [decS_down hd]
    refine (sread_below _ _ A w (minus_dec A) (fun w => sg_read_back A w hA.lt) (by omega)).mono ?_
    rintro e w' ⟨b', h', l', rfl, hZ, g⟩
    obtain ⟨rfl, rfl, rfl⟩ := hZ.unique (show IsZ true h l (-(A : Int)) from ⟨by simp; omega, by simpa using hA⟩)
    exact ⟨rfl, g⟩
theorem sprint_is (b : Bool) (h l : Int) (A : Nat) (s : ByteArray) (w : World) (hA : IsW h l A) (hs : strOfNums (decS b A) = s) :
    Calls Try.prog 46 #[.agg #[.bool b, .int .u64 h, .int .u64 l]] w fun e w' => e = .returned (.string s) ∧ Below w.heap.size w w' := by
  rw [← hs]; exact sprint_any b h l A w hA
theorem right_is (b r : Bool) (h l : Int) (N : Nat) (w : World) (hW : IsW h l N) (hr : rightB b N = r) :
    Calls Try.prog 42 #[.agg #[.bool b, .int .u64 h, .int .u64 l]] w fun e w' => e = .returned (.bool r) ∧ Below w.heap.size w w' := by
  rw [← hr]; exact right_any b h l N w hW
theorem sprint_z {b : Bool} {h l z : Int} (hZ : IsZ b h l z) {s : ByteArray} (hs : strOfNums (decS (decide (z < 0)) z.natAbs) = s) : strOfNums (decS b z.natAbs) = s := by
  rw [hZ.b]; exact hs

set_option maxRecDepth 100000 in
theorem sprints_long (b : Bool) (ah al : Int) (s : ByteArray) (w : World) (hs : 200 < s.size) (hm : s.size ≤ 9223372036854775807) :
    Calls Try.prog 11 #[.agg #[.bool b, .int .u64 ah, .int .u64 al], .string s] w fun e w' => e = .returned (.bool true) ∧ Below w.heap.size w w' := by
  go_enter Try.func11, Try.ntmps11
  go_wp2_with (go_at_call 34; (with_reducible refine (sg_awake _).mono ?_); rintro e w1 ⟨rfl, g1⟩; have DD1 := below_step (below_more (Below.refl w.heap.size w) _) g1)
  go_ret
  exact ⟨rfl, DD1⟩

set_option maxRecDepth 100000 in
set_option maxHeartbeats 4000000 in
theorem sprints_right_fine (b : Bool) (ah al : Int) (A : Nat) (hr : rightB b A = true) (z : Int) (s : ByteArray) (w : World) (hA : IsW ah al A) (hs : s.size ≤ 200) (r1 : ∀ w, Calls Try.prog 47 #[.string s] w (GivesZC z 0 w)) (r2 : ∀ w, Calls Try.prog 48 #[.string s] w (GivesZC z 0 w)) (hback : strOfNums (decS (decide (z < 0)) z.natAbs) = s) :
    Calls Try.prog 11 #[.agg #[.bool b, .int .u64 ah, .int .u64 al], .string s] w fun e w' => e = .returned (.bool true) ∧ Below w.heap.size w w' := by
  have hd := rightB_yes hr
  have HA := Lib.hid hA
  have R1 := Lib.hid r1
  have R2 := Lib.hid r2
  replace hback := Lib.hid hback
  clear hA r1 r2
  have K0 := Lib.hid (Var3.fresh w (.bool b) (.int .u64 ah) (.int .u64 al) 58 w.heap.size rfl)
  go_enter Try.func11, Try.ntmps11
  go_wp2_with (first
    | (go_at_call 34; (with_reducible refine (sg_awake _).mono ?_); rintro e w1 ⟨rfl, g1⟩; have K1 := Lib.hid (K0.out.after g1); obtain ⟨_, _, _, _, _, _, _⟩ := K1.out; have D1 := below_step (below_more (Below.refl w.heap.size w) _) g1)
    | (go_at_call 46; (with_reducible refine (sprint_any b ah al A _ HA.out).mono ?_); rintro e w2 ⟨rfl, g2⟩; have K2 := Lib.hid (K1.out.after g2); obtain ⟨_, _, _, _, _, _, _⟩ := K2.out; have D2 := below_step D1 g2)
    | (go_at_call 47; (with_reducible refine (sprint_back b ah al A _ HA.out).mono ?_); rintro e w3 ⟨rfl, g3⟩; rw [hd]; have K3 := Lib.hid (K2.out.after g3); obtain ⟨_, _, _, _, _, _, _⟩ := K3.out; have D3 := below_step D2 g3)
    | (go_at_call 47; (with_reducible refine (R1.out _).mono ?_); rintro e w4 ⟨xs, xh, xl, rfl, hX, g4⟩; have K4 := Lib.hid ((K3.out.alloc _).after g4); obtain ⟨_, _, _, _, _, _, _⟩ := K4.out; have B4 := Lib.hid ((Var3.fresh w3 (.bool b) (.int .u64 ah) (.int .u64 al) 58 _ rfl).after g4); obtain ⟨_, _, _, _, _, _, _⟩ := B4.out; have D4 := below_step (below_more D3 _) g4)
    | (go_at_call 48; (with_reducible refine (R2.out _).mono ?_); rintro e w5 ⟨ys, yh, yl, rfl, hY, g5⟩; have K5 := Lib.hid ((K4.out.alloc _).after g5); obtain ⟨_, _, _, _, _, _, _⟩ := K5.out; have B5 := Lib.hid ((B4.out.alloc _).after g5); obtain ⟨_, _, _, _, _, _, _⟩ := B5.out; have X5 := Lib.hid ((Var3.fresh w4 (.bool xs) (.int .u64 xh) (.int .u64 xl) 58 _ rfl).after g5); obtain ⟨_, _, _, _, _, _, _⟩ := X5.out; have D5 := below_step (below_more D4 _) g5; obtain ⟨rfl, rfl, rfl⟩ := hY.unique hX; clear hY; replace hX := Lib.hid hX)
    | (go_at_call 49; (with_reducible refine (rprint_any b ah al A _ HA.out).mono ?_); rintro e w6 ⟨rfl, g6⟩; have K6 := Lib.hid ((K5.out.alloc _).after g6); obtain ⟨_, _, _, _, _, _, _⟩ := K6.out; have B6 := Lib.hid ((B5.out.alloc _).after g6); obtain ⟨_, _, _, _, _, _, _⟩ := B6.out; have X6 := Lib.hid ((X5.out.alloc _).after g6); obtain ⟨_, _, _, _, _, _, _⟩ := X6.out; have Y6 := Lib.hid ((Var3.fresh w5 (.bool ys) (.int .u64 yh) (.int .u64 yl) 58 _ rfl).after g6); obtain ⟨_, _, _, _, _, _, _⟩ := Y6.out; have D6 := below_step (below_more D5 _) g6)
    | (go_at_call 46; (with_reducible refine (sprint_is ys yh yl z.natAbs s _ hX.out.w (sprint_z hX.out hback.out)).mono ?_); rintro e w7 ⟨rfl, g7⟩; have K7 := Lib.hid (K6.out.after g7); obtain ⟨_, _, _, _, _, _, _⟩ := K7.out; have B7 := Lib.hid (B6.out.after g7); obtain ⟨_, _, _, _, _, _, _⟩ := B7.out; have D7 := below_step D6 g7)
    | (go_at_call 42; (with_reducible refine (right_is b true ah al A _ HA.out hr).mono ?_); rintro e w8 ⟨rfl, g8⟩; obtain ⟨_, _, _, _, _, _, _⟩ := K7.out.after g8; obtain ⟨_, _, _, _, _, _, _⟩ := B7.out.after g8; have D8 := below_step D7 g8))
  go_ret
  exact ⟨rfl, D8⟩

set_option maxRecDepth 100000 in
set_option maxHeartbeats 4000000 in
theorem sprints_right_none (b : Bool) (ah al : Int) (A : Nat) (hr : rightB b A = true) (z : Int) (c : Int) (s : ByteArray) (w : World) (hA : IsW ah al A) (hs : s.size ≤ 200) (r1 : ∀ w, Calls Try.prog 47 #[.string s] w (GivesZC z c w)) (r2 : ∀ w, Calls Try.prog 48 #[.string s] w (GivesZC z c w)) (hc : ¬ c = 0) :
    Calls Try.prog 11 #[.agg #[.bool b, .int .u64 ah, .int .u64 al], .string s] w fun e w' => e = .returned (.bool true) ∧ Below w.heap.size w w' := by
  have hd := rightB_yes hr
  have HA := Lib.hid hA
  have R1 := Lib.hid r1
  have R2 := Lib.hid r2
  have hc1 : (c == 0) = false := by simpa using hc
  have hc2 : (c != 0) = true := by simpa using hc
  clear hc
  clear hA r1 r2
  have K0 := Lib.hid (Var3.fresh w (.bool b) (.int .u64 ah) (.int .u64 al) 58 w.heap.size rfl)
  go_enter Try.func11, Try.ntmps11
  go_wp2_with (first
    | (go_at_call 34; (with_reducible refine (sg_awake _).mono ?_); rintro e w1 ⟨rfl, g1⟩; have K1 := Lib.hid (K0.out.after g1); obtain ⟨_, _, _, _, _, _, _⟩ := K1.out; have D1 := below_step (below_more (Below.refl w.heap.size w) _) g1)
    | (go_at_call 46; (with_reducible refine (sprint_any b ah al A _ HA.out).mono ?_); rintro e w2 ⟨rfl, g2⟩; have K2 := Lib.hid (K1.out.after g2); obtain ⟨_, _, _, _, _, _, _⟩ := K2.out; have D2 := below_step D1 g2)
    | (go_at_call 47; (with_reducible refine (sprint_back b ah al A _ HA.out).mono ?_); rintro e w3 ⟨rfl, g3⟩; rw [hd]; have K3 := Lib.hid (K2.out.after g3); obtain ⟨_, _, _, _, _, _, _⟩ := K3.out; have D3 := below_step D2 g3)
    | (go_at_call 47; (with_reducible refine (R1.out _).mono ?_); rintro e w4 ⟨xs, xh, xl, rfl, hX, g4⟩; have K4 := Lib.hid ((K3.out.alloc _).after g4); obtain ⟨_, _, _, _, _, _, _⟩ := K4.out; have B4 := Lib.hid ((Var3.fresh w3 (.bool b) (.int .u64 ah) (.int .u64 al) 58 _ rfl).after g4); obtain ⟨_, _, _, _, _, _, _⟩ := B4.out; have D4 := below_step (below_more D3 _) g4)
    | (go_at_call 48; (with_reducible refine (R2.out _).mono ?_); rintro e w5 ⟨ys, yh, yl, rfl, hY, g5⟩; have K5 := Lib.hid ((K4.out.alloc _).after g5); obtain ⟨_, _, _, _, _, _, _⟩ := K5.out; have B5 := Lib.hid ((B4.out.alloc _).after g5); obtain ⟨_, _, _, _, _, _, _⟩ := B5.out; have X5 := Lib.hid ((Var3.fresh w4 (.bool xs) (.int .u64 xh) (.int .u64 xl) 58 _ rfl).after g5); obtain ⟨_, _, _, _, _, _, _⟩ := X5.out; have D5 := below_step (below_more D4 _) g5; obtain ⟨rfl, rfl, rfl⟩ := hY.unique hX; clear hY; replace hX := Lib.hid hX)
    | (go_at_call 49; (with_reducible refine (rprint_any b ah al A _ HA.out).mono ?_); rintro e w6 ⟨rfl, g6⟩; have K6 := Lib.hid ((K5.out.alloc _).after g6); obtain ⟨_, _, _, _, _, _, _⟩ := K6.out; have B6 := Lib.hid ((B5.out.alloc _).after g6); obtain ⟨_, _, _, _, _, _, _⟩ := B6.out; have X6 := Lib.hid ((X5.out.alloc _).after g6); obtain ⟨_, _, _, _, _, _, _⟩ := X6.out; have Y6 := Lib.hid ((Var3.fresh w5 (.bool ys) (.int .u64 yh) (.int .u64 yl) 58 _ rfl).after g6); obtain ⟨_, _, _, _, _, _, _⟩ := Y6.out; have D6 := below_step (below_more D5 _) g6)
    | (go_at_call 42; (with_reducible refine (right_is b true ah al A _ HA.out hr).mono ?_); rintro e w8 ⟨rfl, g8⟩; obtain ⟨_, _, _, _, _, _, _⟩ := K6.out.after g8; obtain ⟨_, _, _, _, _, _, _⟩ := B6.out.after g8; have D8 := below_step D6 g8))
  go_ret
  exact ⟨rfl, D8⟩

set_option maxRecDepth 100000 in
set_option maxHeartbeats 4000000 in
theorem sprints_wrong_fine (A : Nat) (z : Int) (s : ByteArray) (w : World) (hA : IsW 0 0 A) (hs : s.size ≤ 200) (r1 : ∀ w, Calls Try.prog 47 #[.string s] w (GivesZC z 0 w)) (r2 : ∀ w, Calls Try.prog 48 #[.string s] w (GivesZC z 0 w)) (hback : strOfNums (decS (decide (z < 0)) z.natAbs) = s) :
    Calls Try.prog 11 #[.agg #[.bool true, .int .u64 0, .int .u64 0], .string s] w fun e w' => e = .returned (.bool true) ∧ Below w.heap.size w w' := by
  obtain rfl : A = 0 := by obtain ⟨_, _, _, _, e⟩ := hA; omega
  have hr : rightB true 0 = false := rfl
  have hd : downB true 0 = false := rfl
  have HA := Lib.hid hA
  have R1 := Lib.hid r1
  have R2 := Lib.hid r2
  replace hback := Lib.hid hback
  clear hA r1 r2
  have K0 := Lib.hid (Var3.fresh w (.bool true) (.int .u64 0) (.int .u64 0) 58 w.heap.size rfl)
  go_enter Try.func11, Try.ntmps11
  go_wp2_with (first
    | (go_at_call 34; (with_reducible refine (sg_awake _).mono ?_); rintro e w1 ⟨rfl, g1⟩; have K1 := Lib.hid (K0.out.after g1); obtain ⟨_, _, _, _, _, _, _⟩ := K1.out; have D1 := below_step (below_more (Below.refl w.heap.size w) _) g1)
    | (go_at_call 46; (with_reducible refine (sprint_any true 0 0 0 _ HA.out).mono ?_); rintro e w2 ⟨rfl, g2⟩; have K2 := Lib.hid (K1.out.after g2); obtain ⟨_, _, _, _, _, _, _⟩ := K2.out; have D2 := below_step D1 g2)
    | (go_at_call 47; (with_reducible refine (sprint_back true 0 0 0 _ HA.out).mono ?_); rintro e w3 ⟨rfl, g3⟩; rw [hd]; have K3 := Lib.hid (K2.out.after g3); obtain ⟨_, _, _, _, _, _, _⟩ := K3.out; have D3 := below_step D2 g3)
    | (go_at_call 47; (with_reducible refine (R1.out _).mono ?_); rintro e w4 ⟨xs, xh, xl, rfl, hX, g4⟩; have K4 := Lib.hid ((K3.out.alloc _).after g4); obtain ⟨_, _, _, _, _, _, _⟩ := K4.out; have B4 := Lib.hid ((Var3.fresh w3 (.bool false) (.int .u64 0) (.int .u64 0) 58 _ rfl).after g4); obtain ⟨_, _, _, _, _, _, _⟩ := B4.out; have D4 := below_step (below_more D3 _) g4)
    | (go_at_call 48; (with_reducible refine (R2.out _).mono ?_); rintro e w5 ⟨ys, yh, yl, rfl, hY, g5⟩; have K5 := Lib.hid ((K4.out.alloc _).after g5); obtain ⟨_, _, _, _, _, _, _⟩ := K5.out; have B5 := Lib.hid ((B4.out.alloc _).after g5); obtain ⟨_, _, _, _, _, _, _⟩ := B5.out; have X5 := Lib.hid ((Var3.fresh w4 (.bool xs) (.int .u64 xh) (.int .u64 xl) 58 _ rfl).after g5); obtain ⟨_, _, _, _, _, _, _⟩ := X5.out; have D5 := below_step (below_more D4 _) g5; obtain ⟨rfl, rfl, rfl⟩ := hY.unique hX; clear hY; replace hX := Lib.hid hX)
    | (go_at_call 49; (with_reducible refine (rprint_any true 0 0 0 _ HA.out).mono ?_); rintro e w6 ⟨rfl, g6⟩; have K6 := Lib.hid ((K5.out.alloc _).after g6); obtain ⟨_, _, _, _, _, _, _⟩ := K6.out; have B6 := Lib.hid ((B5.out.alloc _).after g6); obtain ⟨_, _, _, _, _, _, _⟩ := B6.out; have X6 := Lib.hid ((X5.out.alloc _).after g6); obtain ⟨_, _, _, _, _, _, _⟩ := X6.out; have Y6 := Lib.hid ((Var3.fresh w5 (.bool ys) (.int .u64 yh) (.int .u64 yl) 58 _ rfl).after g6); obtain ⟨_, _, _, _, _, _, _⟩ := Y6.out; have D6 := below_step (below_more D5 _) g6)
    | (go_at_call 46; (with_reducible refine (sprint_is ys yh yl z.natAbs s _ hX.out.w (sprint_z hX.out hback.out)).mono ?_); rintro e w7 ⟨rfl, g7⟩; have K7 := Lib.hid (K6.out.after g7); obtain ⟨_, _, _, _, _, _, _⟩ := K7.out; have B7 := Lib.hid (B6.out.after g7); obtain ⟨_, _, _, _, _, _, _⟩ := B7.out; have D7 := below_step D6 g7)
    | (go_at_call 42; (with_reducible refine (right_is true false 0 0 0 _ HA.out hr).mono ?_); rintro e w8 ⟨rfl, g8⟩; obtain ⟨_, _, _, _, _, _, _⟩ := K7.out.after g8; obtain ⟨_, _, _, _, _, _, _⟩ := B7.out.after g8; have D8 := below_step D7 g8))
  go_ret
  exact ⟨rfl, D8⟩

set_option maxRecDepth 100000 in
set_option maxHeartbeats 4000000 in
theorem sprints_wrong_none (A : Nat) (z : Int) (c : Int) (s : ByteArray) (w : World) (hA : IsW 0 0 A) (hs : s.size ≤ 200) (r1 : ∀ w, Calls Try.prog 47 #[.string s] w (GivesZC z c w)) (r2 : ∀ w, Calls Try.prog 48 #[.string s] w (GivesZC z c w)) (hc : ¬ c = 0) :
    Calls Try.prog 11 #[.agg #[.bool true, .int .u64 0, .int .u64 0], .string s] w fun e w' => e = .returned (.bool true) ∧ Below w.heap.size w w' := by
  obtain rfl : A = 0 := by obtain ⟨_, _, _, _, e⟩ := hA; omega
  have hr : rightB true 0 = false := rfl
  have hd : downB true 0 = false := rfl
  have HA := Lib.hid hA
  have R1 := Lib.hid r1
  have R2 := Lib.hid r2
  have hc1 : (c == 0) = false := by simpa using hc
  have hc2 : (c != 0) = true := by simpa using hc
  clear hc
  clear hA r1 r2
  have K0 := Lib.hid (Var3.fresh w (.bool true) (.int .u64 0) (.int .u64 0) 58 w.heap.size rfl)
  go_enter Try.func11, Try.ntmps11
  go_wp2_with (first
    | (go_at_call 34; (with_reducible refine (sg_awake _).mono ?_); rintro e w1 ⟨rfl, g1⟩; have K1 := Lib.hid (K0.out.after g1); obtain ⟨_, _, _, _, _, _, _⟩ := K1.out; have D1 := below_step (below_more (Below.refl w.heap.size w) _) g1)
    | (go_at_call 46; (with_reducible refine (sprint_any true 0 0 0 _ HA.out).mono ?_); rintro e w2 ⟨rfl, g2⟩; have K2 := Lib.hid (K1.out.after g2); obtain ⟨_, _, _, _, _, _, _⟩ := K2.out; have D2 := below_step D1 g2)
    | (go_at_call 47; (with_reducible refine (sprint_back true 0 0 0 _ HA.out).mono ?_); rintro e w3 ⟨rfl, g3⟩; rw [hd]; have K3 := Lib.hid (K2.out.after g3); obtain ⟨_, _, _, _, _, _, _⟩ := K3.out; have D3 := below_step D2 g3)
    | (go_at_call 47; (with_reducible refine (R1.out _).mono ?_); rintro e w4 ⟨xs, xh, xl, rfl, hX, g4⟩; have K4 := Lib.hid ((K3.out.alloc _).after g4); obtain ⟨_, _, _, _, _, _, _⟩ := K4.out; have B4 := Lib.hid ((Var3.fresh w3 (.bool false) (.int .u64 0) (.int .u64 0) 58 _ rfl).after g4); obtain ⟨_, _, _, _, _, _, _⟩ := B4.out; have D4 := below_step (below_more D3 _) g4)
    | (go_at_call 48; (with_reducible refine (R2.out _).mono ?_); rintro e w5 ⟨ys, yh, yl, rfl, hY, g5⟩; have K5 := Lib.hid ((K4.out.alloc _).after g5); obtain ⟨_, _, _, _, _, _, _⟩ := K5.out; have B5 := Lib.hid ((B4.out.alloc _).after g5); obtain ⟨_, _, _, _, _, _, _⟩ := B5.out; have X5 := Lib.hid ((Var3.fresh w4 (.bool xs) (.int .u64 xh) (.int .u64 xl) 58 _ rfl).after g5); obtain ⟨_, _, _, _, _, _, _⟩ := X5.out; have D5 := below_step (below_more D4 _) g5; obtain ⟨rfl, rfl, rfl⟩ := hY.unique hX; clear hY; replace hX := Lib.hid hX)
    | (go_at_call 49; (with_reducible refine (rprint_any true 0 0 0 _ HA.out).mono ?_); rintro e w6 ⟨rfl, g6⟩; have K6 := Lib.hid ((K5.out.alloc _).after g6); obtain ⟨_, _, _, _, _, _, _⟩ := K6.out; have B6 := Lib.hid ((B5.out.alloc _).after g6); obtain ⟨_, _, _, _, _, _, _⟩ := B6.out; have X6 := Lib.hid ((X5.out.alloc _).after g6); obtain ⟨_, _, _, _, _, _, _⟩ := X6.out; have Y6 := Lib.hid ((Var3.fresh w5 (.bool ys) (.int .u64 yh) (.int .u64 yl) 58 _ rfl).after g6); obtain ⟨_, _, _, _, _, _, _⟩ := Y6.out; have D6 := below_step (below_more D5 _) g6)
    | (go_at_call 42; (with_reducible refine (right_is true false 0 0 0 _ HA.out hr).mono ?_); rintro e w8 ⟨rfl, g8⟩; obtain ⟨_, _, _, _, _, _, _⟩ := K6.out.after g8; obtain ⟨_, _, _, _, _, _, _⟩ := B6.out.after g8; have D8 := below_step D6 g8))
  go_ret
  exact ⟨rfl, D8⟩

theorem rf_no (s : ByteArray) (w : World) (hm : s.size ≤ 9223372036854775807) (hd : ¬ Dg (nums s)) : Calls Try.prog 32 #[.string s] w (GivesWC 0 5 w) := by
  by_cases h0 : s.size = 0
  · have hs : s = ⟨#[]⟩ := by
      have hn : nums s = [] := List.eq_nil_of_length_eq_zero (by rw [nums_length, h0])
      rw [← strOfNums_nums s, hn]; rfl
    rw [hs]; exact refread_empty w
  · by_cases hh : (s[0].toNat : Int) = 48
    · by_cases h1 : s.size = 1
      · have hz := toList_nought h1 (by rw [nums_at s 0 (by omega)]; exact hh)
        refine (hd ?_).elim
        rw [hz]
        refine ⟨by decide, fun _ => rfl, fun i hi => ?_⟩
        obtain rfl : i = 0 := by simp [nums] at hi; omega
        decide
      · exact refread_ahead s w hm (by omega) hh
    · exact refread_bad s w hm (by omega) hh hd
theorem not_nought {d : ByteArray} (_hd : Dg (nums d)) (hN : ¬ numOf (nums d) = 0) : (d.toList == [48]) = false := by
  have e : d.toList = d.data.toList := ByteArray.toList_eq d
  rw [e]
  cases hq : (d.data.toList == [48]) with
  | false => rfl
  | true =>
    have h1 : d.data.toList = [48] := by simpa using hq
    have : nums d = [48] := by unfold nums; rw [h1]; rfl
    rw [this] at hN
    exact (hN (by decide)).elim
theorem is_nought {d : ByteArray} (hd : Dg (nums d)) (hN : numOf (nums d) = 0) : d = ⟨#[48]⟩ := by
  have := str_back hd
  rw [hN] at this
  rw [← this, dec_small (by decide)]; rfl
/-- What the two say of a text, and what it is. -/
theorem texts (s : ByteArray) (hs : s.size ≤ 200) : ∃ (z c : Int), (∀ w, Calls Try.prog 47 #[.string s] w (GivesZC z c w)) ∧ (∀ w, Calls Try.prog 48 #[.string s] w (GivesZC z c w)) ∧ (c = 0 → strOfNums (decS (decide (z < 0)) z.natAbs) = s) := by
  rcases minus_or s with ⟨d, hm⟩ | hm
  · have hsz := hm.size
    have hd9 : d.size ≤ 9223372036854775807 := by omega
    by_cases hd : Dg (nums d)
    · by_cases hN : W128 (numOf (nums d))
      · have r1 := fun w => eread_yes d w hd9 hd
        have r2 := fun w => refread_yes d w hd9 hd
        rw [capN_in hN, capC_in hN] at r1 r2
        by_cases h0 : numOf (nums d) = 0
        · rw [h0] at r1 r2
          have hd0 := is_nought hd h0
          subst hd0
          exact ⟨0, 5, fun w => sread_nought s _ w hm r1, fun w => rread_nought s w hm hs r2, fun h => by cases h⟩
        · refine ⟨-(numOf (nums d) : Int), 0, fun w => sread_below s d _ w hm r1 h0, fun w => rread_below s d _ w hm hs r2 (not_nought hd h0) h0, fun _ => ?_⟩
          have e1 : decide (-(numOf (nums d) : Int) < 0) = true := by simp; omega
          have e2 : (-(numOf (nums d) : Int)).natAbs = numOf (nums d) := by omega
          rw [e1, e2, decS_down (by simp [downB, h0]), ← minus_ahead, str_back hd]
          have : (⟨#[45]⟩ : ByteArray) ++ d = s := by
            apply ByteArray.ext
            apply Array.toList_inj.mp
            rw [ByteArray.data_append, Array.toList_append]
            exact hm.symm
          exact this
      · have r1 := fun w => eread_yes d w hd9 hd
        have r2 := fun w => refread_yes d w hd9 hd
        rw [capN_out hN, capC_out hN] at r1 r2
        exact ⟨0, 3, fun w => sread_bad s d 3 w hm r1 (by decide), fun w => rread_bad s d 3 w hm hs r2 (by decide), fun h => by cases h⟩
    · exact ⟨0, 5, fun w => sread_bad s d 5 w hm (fun w => eread_no d w hd9 hd) (by decide), fun w => rread_bad s d 5 w hm hs (fun w => rf_no d w hd9 hd) (by decide), fun h => by cases h⟩
  · have hs9 : s.size ≤ 9223372036854775807 := by omega
    by_cases hd : Dg (nums s)
    · have r1 := fun w => eread_yes s w hs9 hd
      have r2 := fun w => refread_yes s w hs9 hd
      by_cases hN : W128 (numOf (nums s))
      · rw [capN_in hN, capC_in hN] at r1 r2
        refine ⟨(numOf (nums s) : Int), 0, fun w => sread_up s _ 0 w hm r1 (Or.inl rfl), fun w => rread_up s _ 0 w hm hs r2 (Or.inl rfl), fun _ => ?_⟩
        have e1 : decide ((numOf (nums s) : Int) < 0) = false := by simp
        rw [e1, decS_up rfl, Int.natAbs_natCast]; exact str_back hd
      · rw [capN_out hN, capC_out hN] at r1 r2
        exact ⟨((0 : Nat) : Int), 3, fun w => sread_up s 0 3 w hm r1 (Or.inr ⟨by decide, rfl⟩), fun w => rread_up s 0 3 w hm hs r2 (Or.inr ⟨by decide, rfl⟩), fun h => by cases h⟩
    · exact ⟨((0 : Nat) : Int), 5, fun w => sread_up s 0 5 w hm (fun w => eread_no s w hs9 hd) (Or.inr ⟨by decide, rfl⟩), fun w => rread_up s 0 5 w hm hs (fun w => rf_no s w hs9 hd) (Or.inr ⟨by decide, rfl⟩), fun h => by cases h⟩

theorem sprints_walk (b : Bool) (ah al : Int) (A : Nat) (s : ByteArray) (w : World) (hA : IsW ah al A) (hm : s.size ≤ 9223372036854775807) :
    Calls Try.prog 11 #[.agg #[.bool b, .int .u64 ah, .int .u64 al], .string s] w fun e w' => e = .returned (.bool true) ∧ Below w.heap.size w w' := by
  by_cases hl : 200 < s.size
  · exact sprints_long b ah al s w hl hm
  · obtain ⟨z, c, r1, r2, hback⟩ := texts s (by omega)
    by_cases hr : rightB b A = true
    · by_cases hc : c = 0
      · subst hc; exact sprints_right_fine b ah al A hr z s w hA (by omega) r1 r2 (hback rfl)
      · exact sprints_right_none b ah al A hr z c s w hA (by omega) r1 r2 hc
    · obtain ⟨rfl, rfl⟩ := rightB_no (Bool.eq_false_iff.mpr hr)
      obtain ⟨rfl, rfl⟩ := hA.nought
      by_cases hc : c = 0
      · subst hc; exact sprints_wrong_fine 0 z s w hA (by omega) r1 r2 (hback rfl)
      · exact sprints_wrong_none 0 z c s w hA (by omega) r1 r2 hc

theorem sprints_own : ownKnob Try.prog.godebug = none := by kernel_rfl

set_option maxRecDepth 100000 in
theorem sprints_lifted (os : Os) (started : os.Started) (H : Type) (enc : TypeId × Value → H) :
    ReturnsInHanded {} Try.checked os 11 .any (Rows.signedPrintsSpec.pre6 enc Try.prog Try.f11 Rows.signedPrintsRow.domain false) (Rows.signedPrintsSpec.post enc Try.prog Try.f11 false true false false) := by
  refine returnsInHanded_of_change (C := Try.checked) sprints_own started (by kernel_rfl) Try.func11
    (ChangeSpec.witness6 (enc := enc) (C := Try.checked) false ⟨#[], #[.agg #[.bool false, .int .u64 0, .int .u64 0], .string ⟨#[]⟩], []⟩ 8 (by kernel_rfl) (by kernel_rfl) (by kernel_rfl) (by kernel_rfl)) ?_
  intro W base args ds gs before hval0 hW hcnd _
  have hval : ∀ (j : Nat) t v, Try.f11.params[j]? = some t → args[j]? = some v → Value.okWide Try.prog W .any base t v := hval0
  have hW' := hW
  obtain ⟨p, q, hA0, hV, rfl, hfz, hnd⟩ := hW
  have hA : DataW.TrodAll enc Try.prog W 0 (fun _ => true) true Try.f11.params.toList args.toList ds p := hA0
  rw [Try.params11] at hA hval
  obtain ⟨v0, v1, d0, d1, p0, p1, rfl, rfl, rfl, h0, h1⟩ := trodAll_two hA
  obtain ⟨rfl, rfl⟩ := trodVars_none hV
  obtain ⟨b, h, l, rfl, rfl, rfl, wh, wl⟩ := open_signed (hval 0 58 v0 rfl rfl) h0
  obtain ⟨s, rfl, rfl, rfl, ws⟩ := open_string Try.underlying9 (hval 1 9 v1 rfl rfl) h1
  clear hA0 hval0
  simp only [List.append_nil] at hW'
  have hsz : s.size ≤ 9223372036854775807 := by have := ws; unfold maxLen at this; omega
  refine (sprints_walk b h l _ s W (IsW.of (word_wf h wh).1 (word_wf h wh).2 (word_wf l wl).1 (word_wf l wl).2) hsz).mono fun e W' ⟨he, bel⟩ => ?_
  subst he
  exact ⟨_, rfl, _, _, _, [], [], [], hW', trodAll_mk1 (shut_bool Try.underlying4 _), trodAll_mk2 (shut_signed _ _ b h l wh wl) (shut_string Try.underlying9 ws), rfl, bel.frame _, fun h => by cases h⟩

theorem sprints_over : Rows.signedPrintsRow.holds Try.pinned (OpenSpec.ofChange Rows.signedPrintsSpec) :=
  OpenClaim.holds_of_wide 11 Try.f11 rfl rfl rfl rfl rfl rfl rfl ⟨rfl, rfl, rfl, rfl, rfl⟩ rfl rfl rfl rfl rfl (by kernel_rfl) Try.func11 (by kernel_rfl)
    (of_decide_eq_true (by kernel_rfl)) (by unfold Func.isWrapper; first | (rw [if_pos (by decide +kernel)]; kernel_rfl) | (rw [if_neg (by decide +kernel)]; exact ⟨rfl, rfl⟩))
    (fun os started H enc _ => sprints_lifted os started H enc)

/-- The statement. -/
theorem signed_prints_proved : Rows.SignedPrintsSaid := sprints_over

end Go.Proofs.Ytcdafppnfflmcaa
