/-
  The program's calls of package crc, walked: Open, All.
-/
import Derived.Test.YtiephcjdbndjaaaDoorCrcB
import Derived.Deep.QuietTactic
import Derived.BigQuiet
namespace Go.Proofs.YtiephcjdbndjaaaDoor
open Go.RowKit

/-- A part of a slice of bytes. -/
theorem slice_in {w : World} {v : Value} {B : List Int} (h : ArgB w v B) (lo hi : Nat) (zl zh : Int) (el : zl = (lo : Int)) (eh : zh = (hi : Int)) (hlo : lo ≤ hi) (hll : lo < B.length) (hhi : hi ≤ B.length) :
    ∃ sv, (∀ W, (Instr.slice 22 v (some (.int .i64 zl)) (some (.int .i64 zh)) none).run Tryd.prog W = .ok sv W) ∧ ArgB w sv ((B.drop lo).take (hi - lo)) := by
  subst el eh
  have hs : ∀ W : World, (sizeOf (Tryd.prog.elem 22)).run Tryd.prog W = .ok 1 W := fun W => by kernel_rfl
  rcases h with ⟨rfl, rfl⟩ | ⟨x, cap, rfl, hc, hcell⟩
  · simp at hll
  obtain ⟨b, off, rfl, hcell2⟩ := arg_addr hcell (by omega)
  refine ⟨.slice (some ⟨b, off + lo, none⟩) (hi - lo) (cap - lo), fun W => ?_, ArgB.part hcell2 lo (hi - lo) (cap - lo) (by omega) (by omega)⟩
  have := run_slice_lh (P := Tryd.prog) W 22 (some ⟨b, off, none⟩) B.length cap (by kernel_rfl) .i64 .i64 (lo : Int) (hi : Int) (by omega) (by omega) (by omega)
  rw [this, hs]
  have e3 : ∀ j : Nat, (⟨b, off, none⟩ : Addr).add j = ⟨b, off + j, none⟩ := fun j => by unfold Addr.add; split <;> simp_all
  simp only [Result.andThen, Int.toNat_natCast, sliced]
  rw [if_neg (by omega)]
  simp only [Option.map_some, Nat.mul_one, e3]

/-- What opening comes to: the bytes, in new memory, and how many the frame has; or Torn. -/
def GivesPN (B : List Int) (w : World) (e : Ending) (w' : World) : Prop :=
  Below w.heap.size w w' ∧ ((openL B = none ∧ e = .returned (.tuple #[.slice none 0 0, .int .i64 0, .int .i64 10])) ∨ ∃ x v, openL B = some x ∧ e = .returned (.tuple #[v, .int .i64 ((x.length + 10 : Nat) : Int), .int .i64 0]) ∧ ArgB w' v x ∧ ∀ b, v.ownBlock = some b → w.heap.size ≤ b)
/-- What opening comes to: the bytes and how many the frame has, or Torn. -/
def GivesP (B : List Int) (w : World) (e : Ending) (w' : World) : Prop :=
  Below w.heap.size w w' ∧ ((openL B = none ∧ ∃ v, e = .returned (.tuple #[v, .int .i64 0, .int .i64 10]) ∧ ArgB w' v []) ∨ ∃ x v, openL B = some x ∧ e = .returned (.tuple #[v, .int .i64 ((x.length + 10 : Nat) : Int), .int .i64 0]) ∧ ArgB w' v x)

set_option maxRecDepth 100000 in
set_option maxHeartbeats 4000000 in
theorem copen_new (v : Value) (B : List Int) (w : World) (env : Env w) (hv : ArgB w v B) (hb : ∀ z ∈ B, 0 ≤ z ∧ z ≤ 255) (hl : B.length ≤ 1000000) :
    Calls Tryd.prog 11 #[v] w (GivesPN B w) := by
  by_cases h10 : B.length < 10
  · obtain ⟨a, cap, rfl⟩ := hv.size
    have hn : Hid (openL B = none) := by unfold Hid openL; rw [if_neg (by omega)]
    have hlt : (B.length : Int) < 10 := by omega
    clear hv hb h10 env
    go_enter Tryd.func11, Tryd.ntmps11
    go_wp2
    go_ret3
    exact ⟨Below.refl _ _, Or.inl ⟨hn.out, rfl⟩⟩
  have hge : ¬ (B.length : Int) < 10 := by omega
  have h1010 : 10 ≤ B.length := by omega
  obtain ⟨s15, hr15, A15⟩ := slice_in hv 1 5 1 5 rfl rfl (by decide) (by omega) (by omega)
  obtain ⟨s59, hr59, A59⟩ := slice_in hv 5 9 5 9 rfl rfl (by decide) (by omega) (by omega)
  have CN := Lib.hid (cnumber_any s15 _ w A15 (fun z hz => hb z (List.mem_of_mem_drop (List.mem_of_mem_take hz))) (by rw [List.length_take]; omega))
  have hsh : highN ((B.drop 1).take (5 - 1)) = saidN B := said_high hb h1010
  rw [hsh] at CN
  obtain ⟨n, hn⟩ : ∃ n, saidN B = n := ⟨_, rfl⟩
  rw [hn] at CN hsh
  have hn32 : n < 4294967296 := by
    have := highN_lt (l := (B.drop 1).take (5 - 1)) (fun z hz => hb z (List.mem_of_mem_drop (List.mem_of_mem_take hz)))
    rw [hsh] at this
    refine Nat.lt_of_lt_of_le this (Nat.pow_le_pow_right (n := 256) (by decide) (?_ : _ ≤ 4))
    rw [List.length_take]; omega
  have HV := Lib.hid hv
  have HE := Lib.hid env
  rcases hv with ⟨rfl, rfl⟩ | ⟨x, cap, rfl, hcap, hcell⟩
  · simp at h1010
  obtain ⟨b, off, rfl, hc⟩ := arg_addr hcell (by omega)
  have c0 := hc 0 (by omega)
  rw [Nat.add_zero] at c0
  obtain ⟨z0, hz0⟩ : ∃ z, B.getD 0 0 = z := ⟨_, rfl⟩
  rw [hz0] at c0
  have hlp : (0 : Int) < (B.length : Int) := by omega
  by_cases h245 : z0 = 245
  case neg =>
    have hno : Hid (openL B = none) := open_first (by rw [hz0]; exact h245)
    have hne : (z0 != 245) = true := by simpa using h245
    clear hc hcell env hb h10 A15 A59 hr15 hr59 h245 hz0 hsh hn
    go_enter Tryd.func11, Tryd.ntmps11
    go_wp2
    go_ret3
    exact ⟨Below.refl _ _, Or.inl ⟨hno.out, rfl⟩⟩
  subst h245
  have hwn : IntKind.u64.wrap (n : Int) = (n : Int) := by rw [IntKind.wrap_u64]; omega
  have hws : IntKind.i64.wrap ((B.length : Int) - 10) = (B.length : Int) - 10 := by rw [IntKind.wrap_i64]; omega
  have hwu : IntKind.u64.wrap ((B.length : Int) - 10) = (B.length : Int) - 10 := by rw [IntKind.wrap_u64]; omega
  by_cases hbig : B.length - 10 < n
  · have hno : Hid (openL B = none) := by unfold Hid openL; rw [hn, if_neg (by omega)]
    have hgt : (B.length : Int) - 10 < (n : Int) := by omega
    clear hc hcell env hb h10 A15 A59 hr59 hz0 hsh hn
    go_enter Tryd.func11, Tryd.ntmps11
    go_wp2_with (go_at_call 20; (with_reducible refine CN.out.mono ?_); rintro e w1 ⟨rfl, rfl⟩)
    go_ret3
    exact ⟨Below.refl _ _, Or.inl ⟨hno.out, rfl⟩⟩
  have hngt : ¬ (B.length : Int) - 10 < (n : Int) := by omega
  have hwi : IntKind.i64.wrap (n : Int) = (n : Int) := by rw [IntKind.wrap_i64]; omega
  obtain ⟨E, hE⟩ : ∃ E, 9 + n = E := ⟨_, rfl⟩
  have hwE : IntKind.i64.wrap (9 + (n : Int)) = (E : Int) := by rw [IntKind.wrap_i64]; omega
  have hEl : (E : Int) < (B.length : Int) := by omega
  have hE9 : (9 : Int) ≤ (E : Int) := by omega
  have cE := hc E (by omega)
  obtain ⟨z9, hz9⟩ : ∃ z, B.getD E 0 = z := ⟨_, rfl⟩
  rw [hz9] at cE
  have hcapE : (E : Int) ≤ (cap : Int) := by omega
  obtain ⟨s9E, hr9E, A9E⟩ := slice_in HV.out 9 (9 + n) 9 (E : Int) rfl (by omega) (by omega) (by omega) (by omega)
  rw [show 9 + n - 9 = n by omega] at A9E
  obtain ⟨X, hX⟩ : ∃ X, (B.drop 9).take n = X := ⟨_, rfl⟩
  have HXl : Hid (X.length = n) := by unfold Hid; rw [← hX, List.length_take, List.length_drop]; omega
  have HXb : Hid (∀ z ∈ X, 0 ≤ z ∧ z ≤ 255) := fun z hz => by rw [← hX] at hz; exact hb z (List.mem_of_mem_drop (List.mem_of_mem_take hz))
  rw [hX] at A9E
  have HA := Lib.hid A9E
  have HA5 := Lib.hid A59
  have hxl : X.length ≤ 1000000 := by have := HXl.out; omega
  obtain ⟨S1, hS1⟩ : ∃ s, sumL X = s := ⟨_, rfl⟩
  obtain ⟨S2, hS2⟩ : ∃ s, highN ((B.drop 5).take (9 - 5)) = s := ⟨_, rfl⟩
  have C1 : Hid (∀ W, Below w.heap.size w W → Calls Tryd.prog 7 #[s9E] W fun e w' => e = .returned (.int .u32 (S1 : Int)) ∧ w' = W) := fun W g => by
    have := cof_same s9E X W (HE.out.step g) (HA.out.below g) HXb.out hxl
    rw [hS1] at this
    exact this
  have C2 : Hid (∀ W, Below w.heap.size w W → Calls Tryd.prog 20 #[s59] W fun e w' => e = .returned (.int .u32 (S2 : Int)) ∧ w' = W) := fun W g => by
    have := cnumber_any s59 _ W (HA5.out.below g) (fun z hz => hb z (List.mem_of_mem_drop (List.mem_of_mem_take hz))) (by rw [List.length_take]; omega)
    rw [hS2] at this
    exact this
  by_cases h95 : z9 = 95
  case neg =>
    have hno : Hid (openL B = none) := open_last (by rw [hn, Nat.add_comm, hE, hz9]; exact h95)
    have hne : (z9 != 95) = true := by simpa using h95
    clear hc hcell env hb h10 A15 A59 hr59 hz0 hsh hn hz9 h95 A9E hX hS1 hS2 hE hr9E
    go_enter Tryd.func11, Tryd.ntmps11
    go_wp2_with (go_at_call 20; (with_reducible refine CN.out.mono ?_); rintro e w1 ⟨rfl, rfl⟩)
    go_quiet (fail)
    have D3 := Lib.hid (below_drewN (Below.refl w1.heap.size w1) nq)
    generalize w1.drewN nq = W3 at D3 ⊢
    go_wp2
    go_ret3
    exact ⟨D3.out, Or.inl ⟨hno.out, rfl⟩⟩
  subst h95
  have hif := open_if hb h1010 n hn (by omega) hz0 (by rw [hE]; exact hz9)
  rw [hX, hS1] at hif
  rw [show highN ((B.drop 5).take 4) = S2 from hS2] at hif
  by_cases hs : S1 = S2
  case neg =>
    have hno : Hid (openL B = none) := by unfold Hid; rw [hif, if_neg hs]
    have hne : ((S1 : Int) != (S2 : Int)) = true := by simp; omega
    clear hc hcell env hb h10 A15 A59 hz0 hsh hn hz9 A9E hX hS1 hS2 hE hif hs
    go_enter Tryd.func11, Tryd.ntmps11
    go_wp2_with (go_at_call 20; (with_reducible refine CN.out.mono ?_); rintro e w1 ⟨rfl, rfl⟩)
    go_quiet (first
      | (go_at_call 7; exact Calls.quiet_of_same (C1.out _ (below_drewN (Below.refl _ _) _)))
      | (go_at_call 20; exact Calls.quiet_of_same (C2.out _ (below_drewN (Below.refl _ _) _))))
    have D3 := Lib.hid (below_drewN (Below.refl w1.heap.size w1) nq)
    generalize w1.drewN nq = W3 at D3 ⊢
    go_wp2
    go_ret3
    exact ⟨D3.out, Or.inl ⟨hno.out, rfl⟩⟩
  subst hs
  have hyes : Hid (openL B = some X) := by unfold Hid; rw [hif, if_pos rfl]
  have hwF : IntKind.i64.wrap ((E : Int) + 1) = (E : Int) + 1 := by rw [IntKind.wrap_i64]; omega
  have hEX : Hid ((E : Int) + 1 = ((X.length + 10 : Nat) : Int)) := by have := HXl.out; unfold Hid; omega
  have CC := Lib.hid (fun W (g : Below w.heap.size w W) => clone_any s9E X W (HA.out.below g) hxl)
  clear hc hcell env hb h10 A15 A59 hz0 hsh hn hz9 A9E hX hS1 hS2 hE hif
  go_enter Tryd.func11, Tryd.ntmps11
  go_wp2_with (go_at_call 20; (with_reducible refine CN.out.mono ?_); rintro e w1 ⟨rfl, rfl⟩)
  go_quiet (first
    | (go_at_call 7; exact Calls.quiet_of_same (C1.out _ (below_drewN (Below.refl _ _) _)))
    | (go_at_call 20; exact Calls.quiet_of_same (C2.out _ (below_drewN (Below.refl _ _) _))))
  have D3 := Lib.hid (below_drewN (Below.refl w1.heap.size w1) nq)
  generalize w1.drewN nq = W3 at D3 ⊢
  go_wp2_with (go_at_call 21; (with_reducible refine (CC.out _ D3.out).mono ?_); rintro e w4 ⟨u, rfl, h4, f4, b4⟩; have F4 := Lib.hid (fun b hb => Nat.le_trans D3.out.size (f4 b hb)); have H4 := Lib.hid h4; have B4 := Lib.hid (below_step D3.out b4); clear h4 b4 f4)
  go_ret3
  exact ⟨B4.out, Or.inr ⟨X, _, hyes.out, by rw [hEX.out]; rfl, H4.out, F4.out⟩⟩
theorem copen_any (v : Value) (B : List Int) (w : World) (env : Env w) (hv : ArgB w v B) (hb : ∀ z ∈ B, 0 ≤ z ∧ z ≤ 255) (hl : B.length ≤ 1000000) :
    Calls Tryd.prog 11 #[v] w (GivesP B w) :=
  (copen_new v B w env hv hb hl).mono fun e w' h => ⟨h.1, by
    rcases h.2 with ⟨h1, h2⟩ | ⟨x, v, h1, h2, h3, _⟩
    · exact Or.inl ⟨h1, _, h2, ArgB.nil _⟩
    · exact Or.inr ⟨x, v, h1, h2, h3⟩⟩

end Go.Proofs.YtiephcjdbndjaaaDoor
