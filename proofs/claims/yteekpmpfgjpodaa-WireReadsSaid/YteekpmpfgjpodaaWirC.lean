/-
  Package wire's Text: walked; all contracts of the package together.
-/
import Derived.Test.YteekpmpfgjpodaaWirJ
import Derived.Test.YteekpmpfgjpodaaWirI
namespace Go.Proofs.Yteekpmpfgjpodaa
open Go.RowKit

/-- A text's bytes, in new memory. -/
theorem bytes_of (s : ByteArray) (w : World) : ∃ cap w1, (convert 9 22 (.string s)).run Try.prog w = .ok (.slice (some ⟨w.heap.size, 0, none⟩) s.size cap) w1 ∧ ArgB w1 (.slice (some ⟨w.heap.size, 0, none⟩) s.size cap) (nums s) ∧ Below w.heap.size w w1 ∧ w1.heap.size = w.heap.size + 1 := by
  refine ⟨grownCap w s.size 0 5, _, run_bytes_of_string (P := Try.prog) w 9 22 5 s Try.underlying9 Try.underlying22 Try.underlying5, ?_, ((Below.refl _ _).drew).alloc (Nat.le_refl _) _, by simp⟩
  refine Or.inr ⟨⟨w.heap.size, 0, none⟩, grownCap w s.size 0 5, by rw [nums_length], by rw [nums_length]; exact grownCap_ge w s.size 0 5, fun i hi => ?_⟩
  rw [nums_length] at hi
  have e2 : (⟨w.heap.size, 0, none⟩ : Addr).add i = ⟨w.drew.heap.size, i, none⟩ := by unfold Addr.add; split <;> simp_all
  rw [e2]
  have : (w.drew.alloc (.cells (bytesRow s (grownCap w s.size 0 5)) 5 ((bytesRow s (grownCap w s.size 0 5)).size, (bytesRow s (grownCap w s.size 0 5)).size + 1))).cell? ⟨w.drew.heap.size, i, none⟩ = _ := World.cell?_alloc_mark _ _ _ _ _
  refine Eq.trans this ?_
  rw [nums_at s i hi]
  unfold bytesRow
  rw [Array.getElem?_append_left (by simpa using hi)]
  simp [hi]
  rfl

set_option maxRecDepth 100000 in
set_option maxHeartbeats 4000000 in
theorem wtext_any (base : Nat) (v : Value) (l : List Int) (s : ByteArray) (w : World) (hO : OwnN w base v l) (hb : base ≤ w.heap.size) (hl : l.length ≤ 1000000) (hs : s.size ≤ 1000000) :
    Calls Try.prog 8 #[v, .string s] w (PutsB base (l ++ (numB s.size ++ nums s)) w) := by
  have hA := hO.argB
  obtain ⟨a, cap, rfl⟩ := hA.size
  have HA := Lib.hid hA
  have hn : s.size ≤ 18446744073709551615 := by omega
  have HN := Lib.hid (fun w => number_up s.size w hn)
  have hlen : Hid (0 < (numB s.size).length ∧ (numB s.size).length ≤ 1000000) := by have := numB_len hn; exact ⟨by omega, by omega⟩
  have hw : IntKind.u64.wrap (s.size : Int) = (s.size : Int) := by rw [IntKind.wrap_u64]; omega
  have HC := Lib.hid (fun w => bytes_of s w)
  have hns : Hid ((nums s).length ≤ 1000000) := by unfold Hid; rw [nums_length]; exact hs
  clear hO hA hn
  go_enter Try.func8, Try.ntmps8
  go_wp2_with (first
    | (go_at_call 26; (with_reducible refine (HN.out _).mono ?_); rintro e w1 ⟨u, rfl, h1, g1⟩; have H1 := Lib.hid h1; have G1 := Lib.hid g1; obtain ⟨ug, uc, rfl⟩ := h1.form; obtain ⟨kc, w2, hcv, a2, b2, hsz⟩ := HC.out w1; have A1 := Lib.hid ((HA.out.below g1).below b2); have N1 := Lib.hid (h1.argB.below b2); have T1 := Lib.hid a2; have G2 := Lib.hid (below_step g1 b2); have hnl := nums_length s; clear h1 g1 a2 b2 hsz)
    | (go_at_call 25; (with_reducible refine (concat_three _ _ _ l _ _ _ _ _ rfl A1.out N1.out T1.out hlen.out.1 hl hlen.out.2 hns.out).mono ?_); rintro e w3 ⟨x, rfl, h3, g3⟩; have H3 := Lib.hid h3; have G3 := Lib.hid (below_step G2.out g3); clear h3 g3))
  go_ret
  exact ⟨_, rfl, H3.out.older (Nat.le_trans hb G2.out.size), G3.out.mono hb, Nat.le_trans hb G3.out.size⟩

end Go.Proofs.Yteekpmpfgjpodaa
