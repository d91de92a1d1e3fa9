/-
  The document's own answers of layer 8, walked: Open.
-/
import Derived.Test.YtiephcjdbndjaaaDoorCrcS
import Derived.Deep.QuietTactic
import Derived.BigQuiet
namespace Go.Proofs.YtiephcjdbndjaaaDoor
open Go.RowKit

/-- What opening bytes comes to (the bytes in the frame lie where they lay). -/
def GivesO (v : Value) (B : List Int) (w : World) (e : Ending) (w' : World) : Prop :=
  Below w.heap.size w w' ∧ ((openL B = none ∧ e = .returned (.tuple #[.slice none 0 0, .int .i64 0, .bool false])) ∨ ∃ x xv, openL B = some x ∧ e = .returned (.tuple #[xv, .int .i64 ((x.length + 10 : Nat) : Int), .bool true]) ∧ ∀ w0, ArgB w0 v B → ArgB w0 xv x)

set_option maxRecDepth 100000 in
set_option maxHeartbeats 4000000 in
theorem rcopen_any (v : Value) (B : List Int) (w : World) (hv : ArgB w v B) (hb : ∀ z ∈ B, 0 ≤ z ∧ z ≤ 255) (hl : B.length ≤ 1000000) :
    Calls Tryd.prog 14 #[v] w (GivesO v B w) := by
  by_cases h10 : B.length < 10
  · obtain ⟨a, cap, rfl⟩ := hv.size
    have hn : Hid (openL B = none) := by unfold Hid openL; rw [if_neg (by omega)]
    have hlt : (B.length : Int) < 10 := by omega
    clear hv hb h10
    go_enter Tryd.func14, Tryd.ntmps14
    go_wp2
    go_ret3
    exact ⟨Below.refl _ _, Or.inl ⟨hn.out, rfl⟩⟩
  · have hge : ¬ (B.length : Int) < 10 := by omega
    rcases hv with ⟨rfl, rfl⟩ | ⟨x, cap, rfl, hcap, hcell⟩
    · exact (h10 (by decide)).elim
    obtain ⟨b, off, rfl, hc⟩ := arg_addr hcell (by omega)
    clear hcell
    have HC := Lib.hid hc
    have HBy := Lib.hid hb
    have hbyte : ∀ i, i < B.length → 0 ≤ B.getD i 0 ∧ B.getD i 0 ≤ 255 := fun i hi => hb _ (by rw [List.getD_eq_getElem?_getD, List.getElem?_eq_getElem hi]; exact List.getElem_mem hi)
    obtain ⟨z1, hz1⟩ : ∃ z, B.getD 1 0 = z := ⟨_, rfl⟩
    obtain ⟨z2, hz2⟩ : ∃ z, B.getD 2 0 = z := ⟨_, rfl⟩
    obtain ⟨z3, hz3⟩ : ∃ z, B.getD 3 0 = z := ⟨_, rfl⟩
    obtain ⟨z4, hz4⟩ : ∃ z, B.getD 4 0 = z := ⟨_, rfl⟩
    have c1 := hc 1 (by omega)
    have c2 := hc 2 (by omega)
    have c3 := hc 3 (by omega)
    have c4 := hc 4 (by omega)
    have b1 := hbyte 1 (by omega)
    have b2 := hbyte 2 (by omega)
    have b3 := hbyte 3 (by omega)
    have b4 := hbyte 4 (by omega)
    rw [hz1] at c1 b1
    rw [hz2] at c2 b2
    rw [hz3] at c3 b3
    rw [hz4] at c4 b4
    obtain ⟨n, hn⟩ : ∃ n : Nat, 16777216 * z1 + 65536 * z2 + 256 * z3 + z4 = (n : Int) := ⟨(16777216 * z1 + 65536 * z2 + 256 * z3 + z4).toNat, by omega⟩
    have hsaid : Hid (saidN B = n) := by unfold Hid saidN fourN; rw [hz1, hz2, hz3, hz4, hn]; rfl
    have n32 : n < 4294967296 := by omega
    have w1 : IntKind.u64.wrap z1 = z1 := by rw [IntKind.wrap_u64]; omega
    have w2 : IntKind.u64.wrap z2 = z2 := by rw [IntKind.wrap_u64]; omega
    have w3 : IntKind.u64.wrap z3 = z3 := by rw [IntKind.wrap_u64]; omega
    have w4 : IntKind.u64.wrap z4 = z4 := by rw [IntKind.wrap_u64]; omega
    have w5 : IntKind.u64.wrap (16777216 * z1) = 16777216 * z1 := by rw [IntKind.wrap_u64]; omega
    have w6 : IntKind.u64.wrap (65536 * z2) = 65536 * z2 := by rw [IntKind.wrap_u64]; omega
    have w7 : IntKind.u64.wrap (256 * z3) = 256 * z3 := by rw [IntKind.wrap_u64]; omega
    have w8 : IntKind.u64.wrap (16777216 * z1 + 65536 * z2) = 16777216 * z1 + 65536 * z2 := by rw [IntKind.wrap_u64]; omega
    have w9 : IntKind.u64.wrap (16777216 * z1 + 65536 * z2 + 256 * z3) = 16777216 * z1 + 65536 * z2 + 256 * z3 := by rw [IntKind.wrap_u64]; omega
    have w10 : IntKind.u64.wrap (16777216 * z1 + 65536 * z2 + 256 * z3 + z4) = (n : Int) := by rw [hn, IntKind.wrap_u64]; omega
    have g1 : (1 : Int) < (B.length : Int) := by omega
    have g2 : (2 : Int) < (B.length : Int) := by omega
    have g3 : (3 : Int) < (B.length : Int) := by omega
    have g4 : (4 : Int) < (B.length : Int) := by omega
    clear hz1 hz2 hz3 hz4 hc hb hbyte h10
    go_enter Tryd.func14, Tryd.ntmps14
    go_wp2
    go_quiet (fail)
    have DW := Lib.hid (below_drewN (Below.refl w.heap.size w) nq)
    generalize w.drewN nq = W at DW ⊢
    clear c1 c2 c3 c4 b1 b2 b3 b4 w1 w2 w3 w4 w5 w6 w7 w8 w9 w10 g1 g2 g3 g4 hn
    have hw1 : IntKind.u64.wrap ((B.length : Int) - 10) = (B.length : Int) - 10 := by rw [IntKind.wrap_u64]; omega
    by_cases hn2 : B.length - 10 < n
    · have hno : Hid (openL B = none) := by unfold Hid openL; rw [hsaid.out, if_neg (by omega)]
      have hgt : (B.length : Int) - 10 < (n : Int) := by omega
      clear hn2
      go_wp2
      go_ret3
      exact ⟨DW.out, Or.inl ⟨hno.out, rfl⟩⟩
    · have hgt : ¬ (B.length : Int) - 10 < (n : Int) := by omega
      have hw2 : IntKind.i64.wrap (n : Int) = (n : Int) := by rw [IntKind.wrap_i64]; omega
      have hw3 : IntKind.i64.wrap (9 + (n : Int)) = 9 + (n : Int) := by rw [IntKind.wrap_i64]; omega
      have hbd : 9 + (n : Int) ≤ (cap : Int) := by omega
      have hN : Hid (n + 10 ≤ B.length) := (by omega : n + 10 ≤ B.length)
      clear hn2
      have hcW : ∀ i, i < B.length → W.cell? ⟨b, off + i, none⟩ = some (.int .u8 (B.getD i 0)) := fun i hi => (DW.out.cell (p := ⟨b, off + i, none⟩) (World.block_lt_of_cell? _ _ (HC.out i hi))).trans (HC.out i hi)
      obtain ⟨X, hX⟩ : ∃ X, (B.drop 9).take n = X := ⟨_, rfl⟩
      have HXl : Hid (X.length = n) := by unfold Hid; rw [← hX, List.length_take, List.length_drop]; omega
      have HXb : Hid (∀ z ∈ X, 0 ≤ z ∧ z ≤ 255) := fun z hz => by rw [← hX] at hz; exact HBy.out z (List.mem_of_mem_drop (List.mem_of_mem_take hz))
      have HA := Lib.hid (ArgB.part hcW 9 n (cap - 9) (by omega) (by omega))
      have HA0 := Lib.hid (fun (w0 : World) (h0 : ArgB w0 (.slice (some ⟨b, off, none⟩) B.length cap) B) => show ArgB w0 (.slice (some ⟨b, off + 9, none⟩) n (cap - 9)) X from by
        rcases h0 with ⟨h0, _⟩ | ⟨x0, cap0, h0, _, hcell0⟩
        · cases h0
        · simp only [Value.slice.injEq, Option.some.injEq] at h0
          obtain ⟨rfl, _, rfl⟩ := h0
          obtain ⟨b1, off1, he, hc1⟩ := arg_addr hcell0 (by omega)
          simp only [Addr.mk.injEq, and_true] at he
          obtain ⟨rfl, rfl⟩ := he
          rw [← hX]
          exact ArgB.part hc1 9 n (cap - 9) (by omega) (by omega))
      rw [hX] at HA
      have HCW := Lib.hid hcW
      have HX := Lib.hid hX
      clear hcW hX
      go_wp2_with (go_at_call 12; (with_reducible refine (rcframe_any _ X _ HA.out HXb.out (by have := HXl.out; omega)).mono ?_); rintro e w2 ⟨g2, cap2, rfl, h2, b2⟩; have H2 := Lib.hid h2; have B2 := Lib.hid b2; clear h2 b2)
      obtain ⟨fx, hfx⟩ : ∃ fx, frameL X = fx := ⟨_, rfl⟩
      have HFl : Hid (fx.length = n + 10) := by unfold Hid; rw [← hfx, frameL_len, HXl.out]
      have HFb : Hid (∀ z ∈ fx, 0 ≤ z ∧ z ≤ 255) := by rw [← hfx]; exact frameL_byte HXb.out
      rw [hfx] at H2 ⊢
      have HF := Lib.hid hfx
      clear hfx
      obtain ⟨t, ht⟩ : ∃ t, B.take (n + 10) = t := ⟨_, rfl⟩
      have HTb : Hid (∀ z ∈ t, 0 ≤ z ∧ z ≤ 255) := fun z hz => by rw [← ht] at hz; exact HBy.out z (List.mem_of_mem_take hz)
      have hA2 : ArgB W (.slice (some ⟨b, off, none⟩) fx.length cap) t := by
        have := ArgB.part HCW.out 0 (n + 10) cap (by have := hN.out; omega) (by omega)
        rw [HFl.out, ← ht]
        exact this
      have HT := Lib.hid ht
      clear ht
      have hv1 := fun q => conv_arg (w := w2.drewN q) ((H2.out.argB).below (below_drewN (Below.refl _ _) q)) HFb.out
      have hv2 := fun q => conv_arg (w := w2.drewN q) ((hA2.below B2.out).below (below_drewN (Below.refl _ _) q)) HTb.out
      have hv10 := hv1 0
      have hv20 := hv2 0
      change (convert 22 9 (.slice (some ⟨g2, 0, none⟩) fx.length cap2)).run Tryd.prog w2 = .ok (.string (strOfNums fx)) w2 at hv10
      change (convert 22 9 (.slice (some ⟨b, off, none⟩) fx.length cap)).run Tryd.prog w2 = .ok (.string (strOfNums t)) w2 at hv20
      have hfc : (fx.length : Int) ≤ (cap : Int) := by have := HFl.out; have := hN.out; omega
      have BW2 := Lib.hid (below_step DW.out B2.out)
      clear hA2
      by_cases he : fx = t
      · subst he
        have hyes : Hid (openL B = some X) := by
          unfold Hid openL
          rw [hsaid.out, HX.out, if_pos ⟨by have := hN.out; omega, hN.out, by rw [HF.out, HT.out]⟩]
        go_wp2
        go_quiet (fail)
        have BW3 := Lib.hid (below_drewN BW2.out nq)
        generalize w2.drewN nq = w3 at BW3 ⊢
        go_wp2
        go_ret3
        exact ⟨BW3.out, Or.inr ⟨X, _, hyes.out, by rw [HXl.out, HFl.out]; rfl, HA0.out⟩⟩
      · have hne : ((strOfNums fx).toList == (strOfNums t).toList) = false := beq_eq_false_iff_ne.mpr fun h => he (strOfNums_inj HFb.out HTb.out (ByteArray.ext (Array.toList_inj.mp (by rw [← ByteArray.toList_eq, ← ByteArray.toList_eq]; exact h))))
        have hno : Hid (openL B = none) := by
          unfold Hid openL
          rw [hsaid.out, HX.out, if_neg]
          rintro ⟨_, _, h3⟩
          rw [HF.out, HT.out] at h3
          exact he h3
        clear he
        go_wp2
        go_quiet (fail)
        have BW3 := Lib.hid (below_drewN BW2.out nq)
        generalize w2.drewN nq = w3 at BW3 ⊢
        go_wp2
        go_ret3
        exact ⟨BW3.out, Or.inl ⟨hno.out, rfl⟩⟩

end Go.Proofs.YtiephcjdbndjaaaDoor
