/-
  The statement CivilPrints, walked: over the contracts of package civil's calls.
-/
import Derived.Test.YthhaineoflpkkaaDoorCivW
import Derived.Test.YthhaineoflpkkaaDoorCivG
import Derived.Test.YthhaineoflpkkaaDoorCivI
import Derived.Test.YthhaineoflpkkaaDoorCivZ
namespace Go.Proofs.YthhaineoflpkkaaDoor
open Go.RowKit

theorem dpr_size (y m d : Int) : (strOfNums (dpr y m d)).size = 10 := by rw [strOfNums_size]; rfl
theorem cread_is {s : ByteArray} {y m d c : Int} (h : DateOut (nums s) y m d c) (hm : s.size ≤ 9223372036854775807) (w : World) (env : Env w) :
    Calls Tryd.prog 6 #[.string s] w fun e w' => e = .returned (.tuple #[.agg #[.int .i64 y, .int .i64 m, .int .i64 d], .int .i64 c]) ∧ Below w.heap.size w w' := by
  refine (cread_any s w env hm).mono ?_
  rintro e w' ⟨y', m', d', c', rfl, h', g⟩
  obtain ⟨rfl, rfl, rfl, rfl⟩ := h.unique h'
  exact ⟨rfl, g⟩
theorem rdread_is {s : ByteArray} {y m d c : Int} (h : DateOut (nums s) y m d c) (hm : s.size ≤ 9223372036854775807) (w : World) :
    Calls Tryd.prog 7 #[.string s] w fun e w' => e = .returned (.tuple #[.agg #[.int .i64 y, .int .i64 m, .int .i64 d], .int .i64 c]) ∧ Below w.heap.size w w' := by
  refine (rdread_all s w hm).mono ?_
  rintro e w' ⟨y', m', d', c', rfl, h', g⟩
  obtain ⟨rfl, rfl, rfl, rfl⟩ := h.unique h'
  exact ⟨rfl, g⟩
theorem date_outcomes (zs : List Int) : ∃ y m d c, DateOut zs y m d c := by
  by_cases h : DateText zs
  · by_cases hr : RightD (nAt zs 0 4) (nAt zs 5 2) (nAt zs 8 2)
    · exact ⟨_, _, _, _, Or.inr (Or.inr ⟨h, hr, rfl, rfl, rfl, rfl⟩)⟩
    · exact ⟨_, _, _, _, Or.inr (Or.inl ⟨h, hr, rfl, rfl, rfl, rfl⟩)⟩
  · exact ⟨_, _, _, _, Or.inl ⟨h, rfl, rfl, rfl, rfl⟩⟩
theorem date_codes {zs : List Int} {y m d c : Int} (h : DateOut zs y m d c) : c = 0 ∨ c = 5 ∨ c = 8 := by
  rcases h with ⟨_, _, _, _, h⟩ | ⟨_, _, _, _, _, h⟩ | ⟨_, _, _, _, _, h⟩ <;> omega

set_option maxRecDepth 100000 in
theorem civprints_long (y m d : Int) (s : ByteArray) (w : World) (env : Env w) (hs : 100 < s.size) :
    Calls Tryd.prog 3 #[.agg #[.int .i64 y, .int .i64 m, .int .i64 d], .string s] w fun e w' => e = .returned (.bool true) ∧ Below w.heap.size w w' := by
  have DD : Below w.heap.size w (w.alloc (.cells #[.int .i64 y, .int .i64 m, .int .i64 d] 23)) := (Below.refl _ _).alloc (Nat.le_refl _) _
  go_enter Tryd.func3, Tryd.ntmps3
  go_wp2_with (first
    | (go_at_call 4; (with_reducible refine (civ_awake _ (env.step DD)).mono ?_); rintro e w1 ⟨rfl, g⟩; have DD := below_step DD g; clear g))
  go_ret
  exact ⟨rfl, DD⟩

set_option maxRecDepth 100000 in
set_option maxHeartbeats 4000000 in
theorem civprints_right0 (y m d x1 x2 x3 : Int) (T s : ByteArray) (w : World) (env : Env w) (hs : s.size ≤ 100) (_hT : T.size ≤ 100)
    (CP : ∀ w, Env w → Calls Tryd.prog 5 #[.agg #[.int .i64 y, .int .i64 m, .int .i64 d]] w fun e w' => e = .returned (.string T) ∧ Below w.heap.size w w')
    (RP : ∀ w, Calls Tryd.prog 8 #[.agg #[.int .i64 y, .int .i64 m, .int .i64 d]] w fun e w' => e = .returned (.string T) ∧ Below w.heap.size w w')
    (CB : ∀ w, Env w → Calls Tryd.prog 6 #[.string T] w fun e w' => e = .returned (.tuple #[.agg #[.int .i64 y, .int .i64 m, .int .i64 d], .int .i64 0]) ∧ Below w.heap.size w w')
    (CX : ∀ w, Env w → Calls Tryd.prog 6 #[.string s] w fun e w' => e = .returned (.tuple #[.agg #[.int .i64 x1, .int .i64 x2, .int .i64 x3], .int .i64 0]) ∧ Below w.heap.size w w')
    (RX : ∀ w, Calls Tryd.prog 7 #[.string s] w fun e w' => e = .returned (.tuple #[.agg #[.int .i64 x1, .int .i64 x2, .int .i64 x3], .int .i64 0]) ∧ Below w.heap.size w w')
    (CK : ∀ w, Env w → Calls Tryd.prog 5 #[.agg #[.int .i64 x1, .int .i64 x2, .int .i64 x3]] w fun e w' => e = .returned (.string s) ∧ Below w.heap.size w w')
    (RR : ∀ w, Calls Tryd.prog 9 #[.agg #[.int .i64 y, .int .i64 m, .int .i64 d]] w fun e w' => e = .returned (.bool true) ∧ Below w.heap.size w w') :
    Calls Tryd.prog 3 #[.agg #[.int .i64 y, .int .i64 m, .int .i64 d], .string s] w fun e w' => e = .returned (.bool true) ∧ Below w.heap.size w w' := by
  replace CP := Lib.hid CP
  replace RP := Lib.hid RP
  replace CB := Lib.hid CB
  replace CX := Lib.hid CX
  replace RX := Lib.hid RX
  replace RR := Lib.hid RR
  replace CK := Lib.hid CK
  have M := Lib.hid (Var3.fresh w (.int .i64 y) (.int .i64 m) (.int .i64 d) 23 _ rfl)
  have DD : Below w.heap.size w (w.alloc (.cells #[.int .i64 y, .int .i64 m, .int .i64 d] 23)) := (Below.refl _ _).alloc (Nat.le_refl _) _
  go_enter Tryd.func3, Tryd.ntmps3
  go_wp2_with (first
    | (go_at_call 4; (with_reducible refine (civ_awake _ (env.step DD)).mono ?_); rintro e w1 ⟨rfl, g⟩; have M := Lib.hid (M.out.after g); obtain ⟨c0, c1, c2, _, _, _, _⟩ := M.out; have DD := below_step DD g; clear g)
    | (go_at_call 5; (with_reducible refine (CP.out _ (env.step DD)).mono ?_); rintro e w2 ⟨rfl, g⟩; have M := Lib.hid (M.out.after g); have DD := below_step DD g; clear g c0 c1 c2)
    | (go_at_call 6; (with_reducible refine (CB.out _ (env.step DD)).mono ?_); rintro e w3 ⟨rfl, g⟩; have M := Lib.hid ((M.out.after g).alloc (.cells #[.int .i64 y, .int .i64 m, .int .i64 d] 23)); have MB := Lib.hid (Var3.fresh w3 (.int .i64 y) (.int .i64 m) (.int .i64 d) 23 _ rfl); have DD := below_more (below_step DD g) (.cells #[.int .i64 y, .int .i64 m, .int .i64 d] 23); clear g)
    | (go_at_call 6; (with_reducible refine (CX.out _ (env.step DD)).mono ?_); rintro e w4 ⟨rfl, g⟩; have M := Lib.hid ((M.out.after g).alloc (.cells #[.int .i64 x1, .int .i64 x2, .int .i64 x3] 23)); have MB := Lib.hid ((MB.out.after g).alloc (.cells #[.int .i64 x1, .int .i64 x2, .int .i64 x3] 23)); have MX := Lib.hid (Var3.fresh w4 (.int .i64 x1) (.int .i64 x2) (.int .i64 x3) 23 _ rfl); have DD := below_more (below_step DD g) (.cells #[.int .i64 x1, .int .i64 x2, .int .i64 x3] 23); clear g)
    | (go_at_call 7; (with_reducible refine (RX.out _).mono ?_); rintro e w5 ⟨rfl, g⟩; have M := Lib.hid ((M.out.after g).alloc (.cells #[.int .i64 x1, .int .i64 x2, .int .i64 x3] 23)); have MB := Lib.hid ((MB.out.after g).alloc (.cells #[.int .i64 x1, .int .i64 x2, .int .i64 x3] 23)); have MX := Lib.hid ((MX.out.after g).alloc (.cells #[.int .i64 x1, .int .i64 x2, .int .i64 x3] 23)); have MY := Lib.hid (Var3.fresh w5 (.int .i64 x1) (.int .i64 x2) (.int .i64 x3) 23 _ rfl); have DD := below_more (below_step DD g) (.cells #[.int .i64 x1, .int .i64 x2, .int .i64 x3] 23); clear g; obtain ⟨ca, cb, cc, _, _, _, _⟩ := M.out; obtain ⟨xa, xb, xc, _, _, _, _⟩ := MX.out; obtain ⟨ya, yb, yc, _, _, _, _⟩ := MY.out; obtain ⟨ba, bb, bc, _, _, _, _⟩ := MB.out)
    | (go_at_call 8; (with_reducible refine (RP.out _).mono ?_); rintro e w6 ⟨rfl, g⟩; have M := Lib.hid (M.out.after g); have MB := Lib.hid (MB.out.after g); have MX := Lib.hid (MX.out.after g); have MY := Lib.hid (MY.out.after g); have DD := below_step DD g; clear g ca cb cc xa xb xc ya yb yc ba bb bc; obtain ⟨ca, cb, cc, _, _, _, _⟩ := M.out; obtain ⟨xa, xb, xc, _, _, _, _⟩ := MX.out; obtain ⟨ya, yb, yc, _, _, _, _⟩ := MY.out; obtain ⟨ba, bb, bc, _, _, _, _⟩ := MB.out)
    | (go_at_call 5; (with_reducible refine (CK.out _ (env.step DD)).mono ?_); rintro e w7 ⟨rfl, g⟩; have M := Lib.hid (M.out.after g); have MB := Lib.hid (MB.out.after g); have MX := Lib.hid (MX.out.after g); have MY := Lib.hid (MY.out.after g); have DD := below_step DD g; clear g ca cb cc xa xb xc ya yb yc ba bb bc; obtain ⟨ca, cb, cc, _, _, _, _⟩ := M.out; obtain ⟨xa, xb, xc, _, _, _, _⟩ := MX.out; obtain ⟨ya, yb, yc, _, _, _, _⟩ := MY.out; obtain ⟨ba, bb, bc, _, _, _, _⟩ := MB.out)
    | (go_at_call 9; (with_reducible refine (RR.out _).mono ?_); rintro e w8 ⟨rfl, g⟩; have M := Lib.hid (M.out.after g); have MB := Lib.hid (MB.out.after g); have MX := Lib.hid (MX.out.after g); have MY := Lib.hid (MY.out.after g); have DD := below_step DD g; clear g ca cb cc xa xb xc ya yb yc ba bb bc; obtain ⟨ca, cb, cc, _, _, _, _⟩ := M.out; obtain ⟨xa, xb, xc, _, _, _, _⟩ := MX.out; obtain ⟨ya, yb, yc, _, _, _, _⟩ := MY.out; obtain ⟨ba, bb, bc, _, _, _, _⟩ := MB.out))
  go_ret
  exact ⟨rfl, DD⟩

set_option maxRecDepth 100000 in
set_option maxHeartbeats 4000000 in
theorem civprints_right5 (y m d x1 x2 x3 : Int) (T s : ByteArray) (w : World) (env : Env w) (hs : s.size ≤ 100) (_hT : T.size ≤ 100)
    (CP : ∀ w, Env w → Calls Tryd.prog 5 #[.agg #[.int .i64 y, .int .i64 m, .int .i64 d]] w fun e w' => e = .returned (.string T) ∧ Below w.heap.size w w')
    (RP : ∀ w, Calls Tryd.prog 8 #[.agg #[.int .i64 y, .int .i64 m, .int .i64 d]] w fun e w' => e = .returned (.string T) ∧ Below w.heap.size w w')
    (CB : ∀ w, Env w → Calls Tryd.prog 6 #[.string T] w fun e w' => e = .returned (.tuple #[.agg #[.int .i64 y, .int .i64 m, .int .i64 d], .int .i64 0]) ∧ Below w.heap.size w w')
    (CX : ∀ w, Env w → Calls Tryd.prog 6 #[.string s] w fun e w' => e = .returned (.tuple #[.agg #[.int .i64 x1, .int .i64 x2, .int .i64 x3], .int .i64 5]) ∧ Below w.heap.size w w')
    (RX : ∀ w, Calls Tryd.prog 7 #[.string s] w fun e w' => e = .returned (.tuple #[.agg #[.int .i64 x1, .int .i64 x2, .int .i64 x3], .int .i64 5]) ∧ Below w.heap.size w w')
    (RR : ∀ w, Calls Tryd.prog 9 #[.agg #[.int .i64 y, .int .i64 m, .int .i64 d]] w fun e w' => e = .returned (.bool true) ∧ Below w.heap.size w w') :
    Calls Tryd.prog 3 #[.agg #[.int .i64 y, .int .i64 m, .int .i64 d], .string s] w fun e w' => e = .returned (.bool true) ∧ Below w.heap.size w w' := by
  replace CP := Lib.hid CP
  replace RP := Lib.hid RP
  replace CB := Lib.hid CB
  replace CX := Lib.hid CX
  replace RX := Lib.hid RX
  replace RR := Lib.hid RR
  have M := Lib.hid (Var3.fresh w (.int .i64 y) (.int .i64 m) (.int .i64 d) 23 _ rfl)
  have DD : Below w.heap.size w (w.alloc (.cells #[.int .i64 y, .int .i64 m, .int .i64 d] 23)) := (Below.refl _ _).alloc (Nat.le_refl _) _
  go_enter Tryd.func3, Tryd.ntmps3
  go_wp2_with (first
    | (go_at_call 4; (with_reducible refine (civ_awake _ (env.step DD)).mono ?_); rintro e w1 ⟨rfl, g⟩; have M := Lib.hid (M.out.after g); obtain ⟨c0, c1, c2, _, _, _, _⟩ := M.out; have DD := below_step DD g; clear g)
    | (go_at_call 5; (with_reducible refine (CP.out _ (env.step DD)).mono ?_); rintro e w2 ⟨rfl, g⟩; have M := Lib.hid (M.out.after g); have DD := below_step DD g; clear g c0 c1 c2)
    | (go_at_call 6; (with_reducible refine (CB.out _ (env.step DD)).mono ?_); rintro e w3 ⟨rfl, g⟩; have M := Lib.hid ((M.out.after g).alloc (.cells #[.int .i64 y, .int .i64 m, .int .i64 d] 23)); have MB := Lib.hid (Var3.fresh w3 (.int .i64 y) (.int .i64 m) (.int .i64 d) 23 _ rfl); have DD := below_more (below_step DD g) (.cells #[.int .i64 y, .int .i64 m, .int .i64 d] 23); clear g)
    | (go_at_call 6; (with_reducible refine (CX.out _ (env.step DD)).mono ?_); rintro e w4 ⟨rfl, g⟩; have M := Lib.hid ((M.out.after g).alloc (.cells #[.int .i64 x1, .int .i64 x2, .int .i64 x3] 23)); have MB := Lib.hid ((MB.out.after g).alloc (.cells #[.int .i64 x1, .int .i64 x2, .int .i64 x3] 23)); have MX := Lib.hid (Var3.fresh w4 (.int .i64 x1) (.int .i64 x2) (.int .i64 x3) 23 _ rfl); have DD := below_more (below_step DD g) (.cells #[.int .i64 x1, .int .i64 x2, .int .i64 x3] 23); clear g)
    | (go_at_call 7; (with_reducible refine (RX.out _).mono ?_); rintro e w5 ⟨rfl, g⟩; have M := Lib.hid ((M.out.after g).alloc (.cells #[.int .i64 x1, .int .i64 x2, .int .i64 x3] 23)); have MB := Lib.hid ((MB.out.after g).alloc (.cells #[.int .i64 x1, .int .i64 x2, .int .i64 x3] 23)); have MX := Lib.hid ((MX.out.after g).alloc (.cells #[.int .i64 x1, .int .i64 x2, .int .i64 x3] 23)); have MY := Lib.hid (Var3.fresh w5 (.int .i64 x1) (.int .i64 x2) (.int .i64 x3) 23 _ rfl); have DD := below_more (below_step DD g) (.cells #[.int .i64 x1, .int .i64 x2, .int .i64 x3] 23); clear g; obtain ⟨ca, cb, cc, _, _, _, _⟩ := M.out; obtain ⟨xa, xb, xc, _, _, _, _⟩ := MX.out; obtain ⟨ya, yb, yc, _, _, _, _⟩ := MY.out; obtain ⟨ba, bb, bc, _, _, _, _⟩ := MB.out)
    | (go_at_call 8; (with_reducible refine (RP.out _).mono ?_); rintro e w6 ⟨rfl, g⟩; have M := Lib.hid (M.out.after g); have MB := Lib.hid (MB.out.after g); have MX := Lib.hid (MX.out.after g); have MY := Lib.hid (MY.out.after g); have DD := below_step DD g; clear g ca cb cc xa xb xc ya yb yc ba bb bc; obtain ⟨ca, cb, cc, _, _, _, _⟩ := M.out; obtain ⟨xa, xb, xc, _, _, _, _⟩ := MX.out; obtain ⟨ya, yb, yc, _, _, _, _⟩ := MY.out; obtain ⟨ba, bb, bc, _, _, _, _⟩ := MB.out)
    | (go_at_call 9; (with_reducible refine (RR.out _).mono ?_); rintro e w8 ⟨rfl, g⟩; have M := Lib.hid (M.out.after g); have MB := Lib.hid (MB.out.after g); have MX := Lib.hid (MX.out.after g); have MY := Lib.hid (MY.out.after g); have DD := below_step DD g; clear g ca cb cc xa xb xc ya yb yc ba bb bc; obtain ⟨ca, cb, cc, _, _, _, _⟩ := M.out; obtain ⟨xa, xb, xc, _, _, _, _⟩ := MX.out; obtain ⟨ya, yb, yc, _, _, _, _⟩ := MY.out; obtain ⟨ba, bb, bc, _, _, _, _⟩ := MB.out))
  go_ret
  exact ⟨rfl, DD⟩

set_option maxRecDepth 100000 in
set_option maxHeartbeats 4000000 in
theorem civprints_right8 (y m d x1 x2 x3 : Int) (T s : ByteArray) (w : World) (env : Env w) (hs : s.size ≤ 100) (_hT : T.size ≤ 100)
    (CP : ∀ w, Env w → Calls Tryd.prog 5 #[.agg #[.int .i64 y, .int .i64 m, .int .i64 d]] w fun e w' => e = .returned (.string T) ∧ Below w.heap.size w w')
    (RP : ∀ w, Calls Tryd.prog 8 #[.agg #[.int .i64 y, .int .i64 m, .int .i64 d]] w fun e w' => e = .returned (.string T) ∧ Below w.heap.size w w')
    (CB : ∀ w, Env w → Calls Tryd.prog 6 #[.string T] w fun e w' => e = .returned (.tuple #[.agg #[.int .i64 y, .int .i64 m, .int .i64 d], .int .i64 0]) ∧ Below w.heap.size w w')
    (CX : ∀ w, Env w → Calls Tryd.prog 6 #[.string s] w fun e w' => e = .returned (.tuple #[.agg #[.int .i64 x1, .int .i64 x2, .int .i64 x3], .int .i64 8]) ∧ Below w.heap.size w w')
    (RX : ∀ w, Calls Tryd.prog 7 #[.string s] w fun e w' => e = .returned (.tuple #[.agg #[.int .i64 x1, .int .i64 x2, .int .i64 x3], .int .i64 8]) ∧ Below w.heap.size w w')
    (RR : ∀ w, Calls Tryd.prog 9 #[.agg #[.int .i64 y, .int .i64 m, .int .i64 d]] w fun e w' => e = .returned (.bool true) ∧ Below w.heap.size w w') :
    Calls Tryd.prog 3 #[.agg #[.int .i64 y, .int .i64 m, .int .i64 d], .string s] w fun e w' => e = .returned (.bool true) ∧ Below w.heap.size w w' := by
  replace CP := Lib.hid CP
  replace RP := Lib.hid RP
  replace CB := Lib.hid CB
  replace CX := Lib.hid CX
  replace RX := Lib.hid RX
  replace RR := Lib.hid RR
  have M := Lib.hid (Var3.fresh w (.int .i64 y) (.int .i64 m) (.int .i64 d) 23 _ rfl)
  have DD : Below w.heap.size w (w.alloc (.cells #[.int .i64 y, .int .i64 m, .int .i64 d] 23)) := (Below.refl _ _).alloc (Nat.le_refl _) _
  go_enter Tryd.func3, Tryd.ntmps3
  go_wp2_with (first
    | (go_at_call 4; (with_reducible refine (civ_awake _ (env.step DD)).mono ?_); rintro e w1 ⟨rfl, g⟩; have M := Lib.hid (M.out.after g); obtain ⟨c0, c1, c2, _, _, _, _⟩ := M.out; have DD := below_step DD g; clear g)
    | (go_at_call 5; (with_reducible refine (CP.out _ (env.step DD)).mono ?_); rintro e w2 ⟨rfl, g⟩; have M := Lib.hid (M.out.after g); have DD := below_step DD g; clear g c0 c1 c2)
    | (go_at_call 6; (with_reducible refine (CB.out _ (env.step DD)).mono ?_); rintro e w3 ⟨rfl, g⟩; have M := Lib.hid ((M.out.after g).alloc (.cells #[.int .i64 y, .int .i64 m, .int .i64 d] 23)); have MB := Lib.hid (Var3.fresh w3 (.int .i64 y) (.int .i64 m) (.int .i64 d) 23 _ rfl); have DD := below_more (below_step DD g) (.cells #[.int .i64 y, .int .i64 m, .int .i64 d] 23); clear g)
    | (go_at_call 6; (with_reducible refine (CX.out _ (env.step DD)).mono ?_); rintro e w4 ⟨rfl, g⟩; have M := Lib.hid ((M.out.after g).alloc (.cells #[.int .i64 x1, .int .i64 x2, .int .i64 x3] 23)); have MB := Lib.hid ((MB.out.after g).alloc (.cells #[.int .i64 x1, .int .i64 x2, .int .i64 x3] 23)); have MX := Lib.hid (Var3.fresh w4 (.int .i64 x1) (.int .i64 x2) (.int .i64 x3) 23 _ rfl); have DD := below_more (below_step DD g) (.cells #[.int .i64 x1, .int .i64 x2, .int .i64 x3] 23); clear g)
    | (go_at_call 7; (with_reducible refine (RX.out _).mono ?_); rintro e w5 ⟨rfl, g⟩; have M := Lib.hid ((M.out.after g).alloc (.cells #[.int .i64 x1, .int .i64 x2, .int .i64 x3] 23)); have MB := Lib.hid ((MB.out.after g).alloc (.cells #[.int .i64 x1, .int .i64 x2, .int .i64 x3] 23)); have MX := Lib.hid ((MX.out.after g).alloc (.cells #[.int .i64 x1, .int .i64 x2, .int .i64 x3] 23)); have MY := Lib.hid (Var3.fresh w5 (.int .i64 x1) (.int .i64 x2) (.int .i64 x3) 23 _ rfl); have DD := below_more (below_step DD g) (.cells #[.int .i64 x1, .int .i64 x2, .int .i64 x3] 23); clear g; obtain ⟨ca, cb, cc, _, _, _, _⟩ := M.out; obtain ⟨xa, xb, xc, _, _, _, _⟩ := MX.out; obtain ⟨ya, yb, yc, _, _, _, _⟩ := MY.out; obtain ⟨ba, bb, bc, _, _, _, _⟩ := MB.out)
    | (go_at_call 8; (with_reducible refine (RP.out _).mono ?_); rintro e w6 ⟨rfl, g⟩; have M := Lib.hid (M.out.after g); have MB := Lib.hid (MB.out.after g); have MX := Lib.hid (MX.out.after g); have MY := Lib.hid (MY.out.after g); have DD := below_step DD g; clear g ca cb cc xa xb xc ya yb yc ba bb bc; obtain ⟨ca, cb, cc, _, _, _, _⟩ := M.out; obtain ⟨xa, xb, xc, _, _, _, _⟩ := MX.out; obtain ⟨ya, yb, yc, _, _, _, _⟩ := MY.out; obtain ⟨ba, bb, bc, _, _, _, _⟩ := MB.out)
    | (go_at_call 9; (with_reducible refine (RR.out _).mono ?_); rintro e w8 ⟨rfl, g⟩; have M := Lib.hid (M.out.after g); have MB := Lib.hid (MB.out.after g); have MX := Lib.hid (MX.out.after g); have MY := Lib.hid (MY.out.after g); have DD := below_step DD g; clear g ca cb cc xa xb xc ya yb yc ba bb bc; obtain ⟨ca, cb, cc, _, _, _, _⟩ := M.out; obtain ⟨xa, xb, xc, _, _, _, _⟩ := MX.out; obtain ⟨ya, yb, yc, _, _, _, _⟩ := MY.out; obtain ⟨ba, bb, bc, _, _, _, _⟩ := MB.out))
  go_ret
  exact ⟨rfl, DD⟩

set_option maxRecDepth 100000 in
set_option maxHeartbeats 4000000 in
theorem civprints_wrong0 (y m d x1 x2 x3 : Int) (T s : ByteArray) (w : World) (env : Env w) (hs : s.size ≤ 100) (_hT : T.size ≤ 100)
    (CP : ∀ w, Env w → Calls Tryd.prog 5 #[.agg #[.int .i64 y, .int .i64 m, .int .i64 d]] w fun e w' => e = .returned (.string T) ∧ Below w.heap.size w w')
    (RP : ∀ w, Calls Tryd.prog 8 #[.agg #[.int .i64 y, .int .i64 m, .int .i64 d]] w fun e w' => e = .returned (.string T) ∧ Below w.heap.size w w')
    (CB : ∀ w, Env w → Calls Tryd.prog 6 #[.string T] w fun e w' => e = .returned (.tuple #[.agg #[.int .i64 0, .int .i64 0, .int .i64 0], .int .i64 5]) ∧ Below w.heap.size w w')
    (CX : ∀ w, Env w → Calls Tryd.prog 6 #[.string s] w fun e w' => e = .returned (.tuple #[.agg #[.int .i64 x1, .int .i64 x2, .int .i64 x3], .int .i64 0]) ∧ Below w.heap.size w w')
    (RX : ∀ w, Calls Tryd.prog 7 #[.string s] w fun e w' => e = .returned (.tuple #[.agg #[.int .i64 x1, .int .i64 x2, .int .i64 x3], .int .i64 0]) ∧ Below w.heap.size w w')
    (CK : ∀ w, Env w → Calls Tryd.prog 5 #[.agg #[.int .i64 x1, .int .i64 x2, .int .i64 x3]] w fun e w' => e = .returned (.string s) ∧ Below w.heap.size w w')
    (RR : ∀ w, Calls Tryd.prog 9 #[.agg #[.int .i64 y, .int .i64 m, .int .i64 d]] w fun e w' => e = .returned (.bool false) ∧ Below w.heap.size w w') :
    Calls Tryd.prog 3 #[.agg #[.int .i64 y, .int .i64 m, .int .i64 d], .string s] w fun e w' => e = .returned (.bool true) ∧ Below w.heap.size w w' := by
  replace CP := Lib.hid CP
  replace RP := Lib.hid RP
  replace CB := Lib.hid CB
  replace CX := Lib.hid CX
  replace RX := Lib.hid RX
  replace RR := Lib.hid RR
  replace CK := Lib.hid CK
  have M := Lib.hid (Var3.fresh w (.int .i64 y) (.int .i64 m) (.int .i64 d) 23 _ rfl)
  have DD : Below w.heap.size w (w.alloc (.cells #[.int .i64 y, .int .i64 m, .int .i64 d] 23)) := (Below.refl _ _).alloc (Nat.le_refl _) _
  go_enter Tryd.func3, Tryd.ntmps3
  go_wp2_with (first
    | (go_at_call 4; (with_reducible refine (civ_awake _ (env.step DD)).mono ?_); rintro e w1 ⟨rfl, g⟩; have M := Lib.hid (M.out.after g); obtain ⟨c0, c1, c2, _, _, _, _⟩ := M.out; have DD := below_step DD g; clear g)
    | (go_at_call 5; (with_reducible refine (CP.out _ (env.step DD)).mono ?_); rintro e w2 ⟨rfl, g⟩; have M := Lib.hid (M.out.after g); have DD := below_step DD g; clear g c0 c1 c2)
    | (go_at_call 6; (with_reducible refine (CB.out _ (env.step DD)).mono ?_); rintro e w3 ⟨rfl, g⟩; have M := Lib.hid ((M.out.after g).alloc (.cells #[.int .i64 0, .int .i64 0, .int .i64 0] 23)); have MB := Lib.hid (Var3.fresh w3 (.int .i64 0) (.int .i64 0) (.int .i64 0) 23 _ rfl); have DD := below_more (below_step DD g) (.cells #[.int .i64 0, .int .i64 0, .int .i64 0] 23); clear g)
    | (go_at_call 6; (with_reducible refine (CX.out _ (env.step DD)).mono ?_); rintro e w4 ⟨rfl, g⟩; have M := Lib.hid ((M.out.after g).alloc (.cells #[.int .i64 x1, .int .i64 x2, .int .i64 x3] 23)); have MB := Lib.hid ((MB.out.after g).alloc (.cells #[.int .i64 x1, .int .i64 x2, .int .i64 x3] 23)); have MX := Lib.hid (Var3.fresh w4 (.int .i64 x1) (.int .i64 x2) (.int .i64 x3) 23 _ rfl); have DD := below_more (below_step DD g) (.cells #[.int .i64 x1, .int .i64 x2, .int .i64 x3] 23); clear g)
    | (go_at_call 7; (with_reducible refine (RX.out _).mono ?_); rintro e w5 ⟨rfl, g⟩; have M := Lib.hid ((M.out.after g).alloc (.cells #[.int .i64 x1, .int .i64 x2, .int .i64 x3] 23)); have MB := Lib.hid ((MB.out.after g).alloc (.cells #[.int .i64 x1, .int .i64 x2, .int .i64 x3] 23)); have MX := Lib.hid ((MX.out.after g).alloc (.cells #[.int .i64 x1, .int .i64 x2, .int .i64 x3] 23)); have MY := Lib.hid (Var3.fresh w5 (.int .i64 x1) (.int .i64 x2) (.int .i64 x3) 23 _ rfl); have DD := below_more (below_step DD g) (.cells #[.int .i64 x1, .int .i64 x2, .int .i64 x3] 23); clear g; obtain ⟨ca, cb, cc, _, _, _, _⟩ := M.out; obtain ⟨xa, xb, xc, _, _, _, _⟩ := MX.out; obtain ⟨ya, yb, yc, _, _, _, _⟩ := MY.out; obtain ⟨ba, bb, bc, _, _, _, _⟩ := MB.out)
    | (go_at_call 8; (with_reducible refine (RP.out _).mono ?_); rintro e w6 ⟨rfl, g⟩; have M := Lib.hid (M.out.after g); have MB := Lib.hid (MB.out.after g); have MX := Lib.hid (MX.out.after g); have MY := Lib.hid (MY.out.after g); have DD := below_step DD g; clear g ca cb cc xa xb xc ya yb yc ba bb bc; obtain ⟨ca, cb, cc, _, _, _, _⟩ := M.out; obtain ⟨xa, xb, xc, _, _, _, _⟩ := MX.out; obtain ⟨ya, yb, yc, _, _, _, _⟩ := MY.out; obtain ⟨ba, bb, bc, _, _, _, _⟩ := MB.out)
    | (go_at_call 5; (with_reducible refine (CK.out _ (env.step DD)).mono ?_); rintro e w7 ⟨rfl, g⟩; have M := Lib.hid (M.out.after g); have MB := Lib.hid (MB.out.after g); have MX := Lib.hid (MX.out.after g); have MY := Lib.hid (MY.out.after g); have DD := below_step DD g; clear g ca cb cc xa xb xc ya yb yc ba bb bc; obtain ⟨ca, cb, cc, _, _, _, _⟩ := M.out; obtain ⟨xa, xb, xc, _, _, _, _⟩ := MX.out; obtain ⟨ya, yb, yc, _, _, _, _⟩ := MY.out; obtain ⟨ba, bb, bc, _, _, _, _⟩ := MB.out)
    | (go_at_call 9; (with_reducible refine (RR.out _).mono ?_); rintro e w8 ⟨rfl, g⟩; have M := Lib.hid (M.out.after g); have MB := Lib.hid (MB.out.after g); have MX := Lib.hid (MX.out.after g); have MY := Lib.hid (MY.out.after g); have DD := below_step DD g; clear g ca cb cc xa xb xc ya yb yc ba bb bc; obtain ⟨ca, cb, cc, _, _, _, _⟩ := M.out; obtain ⟨xa, xb, xc, _, _, _, _⟩ := MX.out; obtain ⟨ya, yb, yc, _, _, _, _⟩ := MY.out; obtain ⟨ba, bb, bc, _, _, _, _⟩ := MB.out))
  go_ret
  exact ⟨rfl, DD⟩

set_option maxRecDepth 100000 in
set_option maxHeartbeats 4000000 in
theorem civprints_wrong5 (y m d x1 x2 x3 : Int) (T s : ByteArray) (w : World) (env : Env w) (hs : s.size ≤ 100) (_hT : T.size ≤ 100)
    (CP : ∀ w, Env w → Calls Tryd.prog 5 #[.agg #[.int .i64 y, .int .i64 m, .int .i64 d]] w fun e w' => e = .returned (.string T) ∧ Below w.heap.size w w')
    (RP : ∀ w, Calls Tryd.prog 8 #[.agg #[.int .i64 y, .int .i64 m, .int .i64 d]] w fun e w' => e = .returned (.string T) ∧ Below w.heap.size w w')
    (CB : ∀ w, Env w → Calls Tryd.prog 6 #[.string T] w fun e w' => e = .returned (.tuple #[.agg #[.int .i64 0, .int .i64 0, .int .i64 0], .int .i64 5]) ∧ Below w.heap.size w w')
    (CX : ∀ w, Env w → Calls Tryd.prog 6 #[.string s] w fun e w' => e = .returned (.tuple #[.agg #[.int .i64 x1, .int .i64 x2, .int .i64 x3], .int .i64 5]) ∧ Below w.heap.size w w')
    (RX : ∀ w, Calls Tryd.prog 7 #[.string s] w fun e w' => e = .returned (.tuple #[.agg #[.int .i64 x1, .int .i64 x2, .int .i64 x3], .int .i64 5]) ∧ Below w.heap.size w w')
    (RR : ∀ w, Calls Tryd.prog 9 #[.agg #[.int .i64 y, .int .i64 m, .int .i64 d]] w fun e w' => e = .returned (.bool false) ∧ Below w.heap.size w w') :
    Calls Tryd.prog 3 #[.agg #[.int .i64 y, .int .i64 m, .int .i64 d], .string s] w fun e w' => e = .returned (.bool true) ∧ Below w.heap.size w w' := by
  replace CP := Lib.hid CP
  replace RP := Lib.hid RP
  replace CB := Lib.hid CB
  replace CX := Lib.hid CX
  replace RX := Lib.hid RX
  replace RR := Lib.hid RR
  have M := Lib.hid (Var3.fresh w (.int .i64 y) (.int .i64 m) (.int .i64 d) 23 _ rfl)
  have DD : Below w.heap.size w (w.alloc (.cells #[.int .i64 y, .int .i64 m, .int .i64 d] 23)) := (Below.refl _ _).alloc (Nat.le_refl _) _
  go_enter Tryd.func3, Tryd.ntmps3
  go_wp2_with (first
    | (go_at_call 4; (with_reducible refine (civ_awake _ (env.step DD)).mono ?_); rintro e w1 ⟨rfl, g⟩; have M := Lib.hid (M.out.after g); obtain ⟨c0, c1, c2, _, _, _, _⟩ := M.out; have DD := below_step DD g; clear g)
    | (go_at_call 5; (with_reducible refine (CP.out _ (env.step DD)).mono ?_); rintro e w2 ⟨rfl, g⟩; have M := Lib.hid (M.out.after g); have DD := below_step DD g; clear g c0 c1 c2)
    | (go_at_call 6; (with_reducible refine (CB.out _ (env.step DD)).mono ?_); rintro e w3 ⟨rfl, g⟩; have M := Lib.hid ((M.out.after g).alloc (.cells #[.int .i64 0, .int .i64 0, .int .i64 0] 23)); have MB := Lib.hid (Var3.fresh w3 (.int .i64 0) (.int .i64 0) (.int .i64 0) 23 _ rfl); have DD := below_more (below_step DD g) (.cells #[.int .i64 0, .int .i64 0, .int .i64 0] 23); clear g)
    | (go_at_call 6; (with_reducible refine (CX.out _ (env.step DD)).mono ?_); rintro e w4 ⟨rfl, g⟩; have M := Lib.hid ((M.out.after g).alloc (.cells #[.int .i64 x1, .int .i64 x2, .int .i64 x3] 23)); have MB := Lib.hid ((MB.out.after g).alloc (.cells #[.int .i64 x1, .int .i64 x2, .int .i64 x3] 23)); have MX := Lib.hid (Var3.fresh w4 (.int .i64 x1) (.int .i64 x2) (.int .i64 x3) 23 _ rfl); have DD := below_more (below_step DD g) (.cells #[.int .i64 x1, .int .i64 x2, .int .i64 x3] 23); clear g)
    | (go_at_call 7; (with_reducible refine (RX.out _).mono ?_); rintro e w5 ⟨rfl, g⟩; have M := Lib.hid ((M.out.after g).alloc (.cells #[.int .i64 x1, .int .i64 x2, .int .i64 x3] 23)); have MB := Lib.hid ((MB.out.after g).alloc (.cells #[.int .i64 x1, .int .i64 x2, .int .i64 x3] 23)); have MX := Lib.hid ((MX.out.after g).alloc (.cells #[.int .i64 x1, .int .i64 x2, .int .i64 x3] 23)); have MY := Lib.hid (Var3.fresh w5 (.int .i64 x1) (.int .i64 x2) (.int .i64 x3) 23 _ rfl); have DD := below_more (below_step DD g) (.cells #[.int .i64 x1, .int .i64 x2, .int .i64 x3] 23); clear g; obtain ⟨ca, cb, cc, _, _, _, _⟩ := M.out; obtain ⟨xa, xb, xc, _, _, _, _⟩ := MX.out; obtain ⟨ya, yb, yc, _, _, _, _⟩ := MY.out; obtain ⟨ba, bb, bc, _, _, _, _⟩ := MB.out)
    | (go_at_call 8; (with_reducible refine (RP.out _).mono ?_); rintro e w6 ⟨rfl, g⟩; have M := Lib.hid (M.out.after g); have MB := Lib.hid (MB.out.after g); have MX := Lib.hid (MX.out.after g); have MY := Lib.hid (MY.out.after g); have DD := below_step DD g; clear g ca cb cc xa xb xc ya yb yc ba bb bc; obtain ⟨ca, cb, cc, _, _, _, _⟩ := M.out; obtain ⟨xa, xb, xc, _, _, _, _⟩ := MX.out; obtain ⟨ya, yb, yc, _, _, _, _⟩ := MY.out; obtain ⟨ba, bb, bc, _, _, _, _⟩ := MB.out)
    | (go_at_call 9; (with_reducible refine (RR.out _).mono ?_); rintro e w8 ⟨rfl, g⟩; have M := Lib.hid (M.out.after g); have MB := Lib.hid (MB.out.after g); have MX := Lib.hid (MX.out.after g); have MY := Lib.hid (MY.out.after g); have DD := below_step DD g; clear g ca cb cc xa xb xc ya yb yc ba bb bc; obtain ⟨ca, cb, cc, _, _, _, _⟩ := M.out; obtain ⟨xa, xb, xc, _, _, _, _⟩ := MX.out; obtain ⟨ya, yb, yc, _, _, _, _⟩ := MY.out; obtain ⟨ba, bb, bc, _, _, _, _⟩ := MB.out))
  go_ret
  exact ⟨rfl, DD⟩

set_option maxRecDepth 100000 in
set_option maxHeartbeats 4000000 in
theorem civprints_wrong8 (y m d x1 x2 x3 : Int) (T s : ByteArray) (w : World) (env : Env w) (hs : s.size ≤ 100) (_hT : T.size ≤ 100)
    (CP : ∀ w, Env w → Calls Tryd.prog 5 #[.agg #[.int .i64 y, .int .i64 m, .int .i64 d]] w fun e w' => e = .returned (.string T) ∧ Below w.heap.size w w')
    (RP : ∀ w, Calls Tryd.prog 8 #[.agg #[.int .i64 y, .int .i64 m, .int .i64 d]] w fun e w' => e = .returned (.string T) ∧ Below w.heap.size w w')
    (CB : ∀ w, Env w → Calls Tryd.prog 6 #[.string T] w fun e w' => e = .returned (.tuple #[.agg #[.int .i64 0, .int .i64 0, .int .i64 0], .int .i64 5]) ∧ Below w.heap.size w w')
    (CX : ∀ w, Env w → Calls Tryd.prog 6 #[.string s] w fun e w' => e = .returned (.tuple #[.agg #[.int .i64 x1, .int .i64 x2, .int .i64 x3], .int .i64 8]) ∧ Below w.heap.size w w')
    (RX : ∀ w, Calls Tryd.prog 7 #[.string s] w fun e w' => e = .returned (.tuple #[.agg #[.int .i64 x1, .int .i64 x2, .int .i64 x3], .int .i64 8]) ∧ Below w.heap.size w w')
    (RR : ∀ w, Calls Tryd.prog 9 #[.agg #[.int .i64 y, .int .i64 m, .int .i64 d]] w fun e w' => e = .returned (.bool false) ∧ Below w.heap.size w w') :
    Calls Tryd.prog 3 #[.agg #[.int .i64 y, .int .i64 m, .int .i64 d], .string s] w fun e w' => e = .returned (.bool true) ∧ Below w.heap.size w w' := by
  replace CP := Lib.hid CP
  replace RP := Lib.hid RP
  replace CB := Lib.hid CB
  replace CX := Lib.hid CX
  replace RX := Lib.hid RX
  replace RR := Lib.hid RR
  have M := Lib.hid (Var3.fresh w (.int .i64 y) (.int .i64 m) (.int .i64 d) 23 _ rfl)
  have DD : Below w.heap.size w (w.alloc (.cells #[.int .i64 y, .int .i64 m, .int .i64 d] 23)) := (Below.refl _ _).alloc (Nat.le_refl _) _
  go_enter Tryd.func3, Tryd.ntmps3
  go_wp2_with (first
    | (go_at_call 4; (with_reducible refine (civ_awake _ (env.step DD)).mono ?_); rintro e w1 ⟨rfl, g⟩; have M := Lib.hid (M.out.after g); obtain ⟨c0, c1, c2, _, _, _, _⟩ := M.out; have DD := below_step DD g; clear g)
    | (go_at_call 5; (with_reducible refine (CP.out _ (env.step DD)).mono ?_); rintro e w2 ⟨rfl, g⟩; have M := Lib.hid (M.out.after g); have DD := below_step DD g; clear g c0 c1 c2)
    | (go_at_call 6; (with_reducible refine (CB.out _ (env.step DD)).mono ?_); rintro e w3 ⟨rfl, g⟩; have M := Lib.hid ((M.out.after g).alloc (.cells #[.int .i64 0, .int .i64 0, .int .i64 0] 23)); have MB := Lib.hid (Var3.fresh w3 (.int .i64 0) (.int .i64 0) (.int .i64 0) 23 _ rfl); have DD := below_more (below_step DD g) (.cells #[.int .i64 0, .int .i64 0, .int .i64 0] 23); clear g)
    | (go_at_call 6; (with_reducible refine (CX.out _ (env.step DD)).mono ?_); rintro e w4 ⟨rfl, g⟩; have M := Lib.hid ((M.out.after g).alloc (.cells #[.int .i64 x1, .int .i64 x2, .int .i64 x3] 23)); have MB := Lib.hid ((MB.out.after g).alloc (.cells #[.int .i64 x1, .int .i64 x2, .int .i64 x3] 23)); have MX := Lib.hid (Var3.fresh w4 (.int .i64 x1) (.int .i64 x2) (.int .i64 x3) 23 _ rfl); have DD := below_more (below_step DD g) (.cells #[.int .i64 x1, .int .i64 x2, .int .i64 x3] 23); clear g)
    | (go_at_call 7; (with_reducible refine (RX.out _).mono ?_); rintro e w5 ⟨rfl, g⟩; have M := Lib.hid ((M.out.after g).alloc (.cells #[.int .i64 x1, .int .i64 x2, .int .i64 x3] 23)); have MB := Lib.hid ((MB.out.after g).alloc (.cells #[.int .i64 x1, .int .i64 x2, .int .i64 x3] 23)); have MX := Lib.hid ((MX.out.after g).alloc (.cells #[.int .i64 x1, .int .i64 x2, .int .i64 x3] 23)); have MY := Lib.hid (Var3.fresh w5 (.int .i64 x1) (.int .i64 x2) (.int .i64 x3) 23 _ rfl); have DD := below_more (below_step DD g) (.cells #[.int .i64 x1, .int .i64 x2, .int .i64 x3] 23); clear g; obtain ⟨ca, cb, cc, _, _, _, _⟩ := M.out; obtain ⟨xa, xb, xc, _, _, _, _⟩ := MX.out; obtain ⟨ya, yb, yc, _, _, _, _⟩ := MY.out; obtain ⟨ba, bb, bc, _, _, _, _⟩ := MB.out)
    | (go_at_call 8; (with_reducible refine (RP.out _).mono ?_); rintro e w6 ⟨rfl, g⟩; have M := Lib.hid (M.out.after g); have MB := Lib.hid (MB.out.after g); have MX := Lib.hid (MX.out.after g); have MY := Lib.hid (MY.out.after g); have DD := below_step DD g; clear g ca cb cc xa xb xc ya yb yc ba bb bc; obtain ⟨ca, cb, cc, _, _, _, _⟩ := M.out; obtain ⟨xa, xb, xc, _, _, _, _⟩ := MX.out; obtain ⟨ya, yb, yc, _, _, _, _⟩ := MY.out; obtain ⟨ba, bb, bc, _, _, _, _⟩ := MB.out)
    | (go_at_call 9; (with_reducible refine (RR.out _).mono ?_); rintro e w8 ⟨rfl, g⟩; have M := Lib.hid (M.out.after g); have MB := Lib.hid (MB.out.after g); have MX := Lib.hid (MX.out.after g); have MY := Lib.hid (MY.out.after g); have DD := below_step DD g; clear g ca cb cc xa xb xc ya yb yc ba bb bc; obtain ⟨ca, cb, cc, _, _, _, _⟩ := M.out; obtain ⟨xa, xb, xc, _, _, _, _⟩ := MX.out; obtain ⟨ya, yb, yc, _, _, _, _⟩ := MY.out; obtain ⟨ba, bb, bc, _, _, _, _⟩ := MB.out))
  go_ret
  exact ⟨rfl, DD⟩

theorem civprints_walk (y m d : Int) (s : ByteArray) (w : World) (env : Env w) (bd : DateBd y m d) (_hm : s.size ≤ 9223372036854775807) :
    Calls Tryd.prog 3 #[.agg #[.int .i64 y, .int .i64 m, .int .i64 d], .string s] w fun e w' => e = .returned (.bool true) ∧ Below w.heap.size w w' := by
  by_cases hs : 100 < s.size
  · exact civprints_long y m d s w env hs
  · have hs2 : s.size ≤ 100 := by omega
    have hs3 : s.size ≤ 9223372036854775807 := by omega
    obtain ⟨x1, x2, x3, f, hX⟩ := date_outcomes (nums s)
    have hf := date_codes hX
    by_cases h : RightD y m d
    · have hT : (strOfNums (dpr y m d)).size ≤ 9223372036854775807 := by rw [dpr_size]; decide
      have hT2 : (strOfNums (dpr y m d)).size ≤ 100 := by rw [dpr_size]; decide
      rcases hf with rfl | rfl | rfl
      · obtain ⟨hR, hB⟩ := date_back hX
        exact civprints_right0 y m d x1 x2 x3 _ s w env hs2 hT2 (fun w e => cprint_yes y m d w e h) (fun w => rdprint_any y m d w h) (fun w e => cread_is (dpr_out h) hT w e) (fun w e => cread_is hX hs3 w e) (fun w => rdread_is hX hs3 w)
          (fun w e => by rw [← hB]; exact cprint_yes x1 x2 x3 w e hR) (fun w => rright_yes y m d w h)
      · exact civprints_right5 y m d x1 x2 x3 _ s w env hs2 hT2 (fun w e => cprint_yes y m d w e h) (fun w => rdprint_any y m d w h) (fun w e => cread_is (dpr_out h) hT w e) (fun w e => cread_is hX hs3 w e) (fun w => rdread_is hX hs3 w) (fun w => rright_yes y m d w h)
      · exact civprints_right8 y m d x1 x2 x3 _ s w env hs2 hT2 (fun w e => cprint_yes y m d w e h) (fun w => rdprint_any y m d w h) (fun w e => cread_is (dpr_out h) hT w e) (fun w e => cread_is hX hs3 w e) (fun w => rdread_is hX hs3 w) (fun w => rright_yes y m d w h)
    · have hT : (⟨#[63]⟩ : ByteArray).size ≤ 9223372036854775807 := by decide
      have hT2 : (⟨#[63]⟩ : ByteArray).size ≤ 100 := by decide
      rcases hf with rfl | rfl | rfl
      · obtain ⟨hR, hB⟩ := date_back hX
        exact civprints_wrong0 y m d x1 x2 x3 _ s w env hs2 hT2 (fun w e => cprint_no y m d w e bd h) (fun w => rdprint_none y m d w h) (fun w e => cread_is mark_date hT w e) (fun w e => cread_is hX hs3 w e) (fun w => rdread_is hX hs3 w)
          (fun w e => by rw [← hB]; exact cprint_yes x1 x2 x3 w e hR) (fun w => rright_no y m d w h)
      · exact civprints_wrong5 y m d x1 x2 x3 _ s w env hs2 hT2 (fun w e => cprint_no y m d w e bd h) (fun w => rdprint_none y m d w h) (fun w e => cread_is mark_date hT w e) (fun w e => cread_is hX hs3 w e) (fun w => rdread_is hX hs3 w) (fun w => rright_no y m d w h)
      · exact civprints_wrong8 y m d x1 x2 x3 _ s w env hs2 hT2 (fun w e => cprint_no y m d w e bd h) (fun w => rdprint_none y m d w h) (fun w e => cread_is mark_date hT w e) (fun w e => cread_is hX hs3 w e) (fun w => rdread_is hX hs3 w) (fun w => rright_no y m d w h)

end Go.Proofs.YthhaineoflpkkaaDoor
