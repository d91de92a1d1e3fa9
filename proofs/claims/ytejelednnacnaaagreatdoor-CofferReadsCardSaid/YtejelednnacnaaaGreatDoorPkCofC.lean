/-
  Package coffer as it landed: Open: walked, with or without a fuse.
-/
import Derived.Test.YtejelednnacnaaaGreatDoorPkCofB
namespace Go.Proofs.YtejelednnacnaaaGreatDoor
open Go.RowKit

/-- What Open comes to: Down, or the coffer and its records. -/
def GivesCo (base : Nat) (O : Foot) (r : Nat) (D : Dsk) (k m : Nat) (w : World) (e : Ending) (w' : World) : Prop :=
  ∃ c D' O' ep b rs, (ep, b) = slotsL 0 (k * D.size) D.last ∧ rs = (allL (regnL (logOf k m ep * D.size) (m * D.size) D.last)).1 ∧ OpnOut D (logOf k m ep * D.size) (m * D.size) rs c D' ∧ DskIs w' base O' r D' ∧ OnlyO base O w w' ∧ Grown O O' w.heap.size ∧
    ((c = 12 ∧ ∃ a n, e = .returned (.tuple #[.pointer none, .slice a 0 n, .int .i64 12])) ∨
     (c = 0 ∧ ∃ cb OC OR a n, e = .returned (.tuple #[.pointer (some ⟨cb, 0, none⟩), .slice a rs.length n, .int .i64 0]) ∧
       CofIs w' w.heap.size OC cb r ⟨k, m, D.size, ep, b, rs.length, usedL rs, false, false, false⟩ ∧ LLF w' base OR (.slice a rs.length n) rs ∧ (∀ i, OR i → w.heap.size ≤ i ∧ i < w'.heap.size ∧ ¬ O' i ∧ ¬ OC i) ∧ ∀ i, OC i → ¬ O' i))
/-- The struct is made. -/
theorem cof_made {W W' : World} {B base r gs gb k m cb : Nat} {OS OG OR O' : Foot} {size ep n : Nat} {b : List Int} {rs : List (List Int)} {rv : Value} (hW : Below W.heap.size W W') (hc : W.heap.size ≤ cb) (hcs : cb < W'.heap.size) (hB : B ≤ W.heap.size) (ha : CofAt W' cb gs r k m gb n false) (hs : SlIs W B OS gs r ⟨0, k, size, ep, b, false⟩) (hl : LogIs W B OG gb r ⟨logOf k m ep, m, size, usedL rs, false⟩) (hr : LLF W base OR rv rs) (hO : ∀ i, O' i → i < W.heap.size)
    (d1 : ∀ i, OR i → B ≤ i ∧ i < W.heap.size ∧ ¬ O' i ∧ ¬ OG i ∧ ¬ OS i) (d2 : ∀ i, OG i → ¬ O' i ∧ ¬ OS i) (d3 : ∀ i, OS i → ¬ O' i) :
    ∃ OC : Foot, CofIs W' B OC cb r ⟨k, m, size, ep, b, n, usedL rs, false, false, false⟩ ∧ LLF W' base OR rv rs ∧ (∀ i, OR i → B ≤ i ∧ i < W'.heap.size ∧ ¬ O' i ∧ ¬ OC i) ∧ ∀ i, OC i → ¬ O' i := by
  have q1 := hW.size
  refine ⟨fun i => i = cb ∨ OS i ∨ OG i, ⟨fun i hi => ?_, Or.inl rfl, gs, gb, OS, OG, ha, hs.after hW, hl.after hW, fun i hi => ⟨Or.inr (Or.inl hi), fun e => ?_⟩, fun i hi => ⟨Or.inr (Or.inr hi), fun e => ?_, (d2 i hi).2⟩⟩, hr.after hW, fun i hi => ?_, fun i hi => ?_⟩
  · rcases hi with rfl | hi | hi
    · exact ⟨by omega, hcs⟩
    · exact ⟨(hs.own i hi).1, Nat.lt_of_lt_of_le (hs.own i hi).2 q1⟩
    · exact ⟨(hl.own i hi).1, Nat.lt_of_lt_of_le (hl.own i hi).2 q1⟩
  · have := (hs.own i hi).2; omega
  · have := (hl.own i hi).2; omega
  · obtain ⟨a1, a2, a3, a4, a5⟩ := d1 i hi
    exact ⟨a1, by omega, a3, fun q => by
      rcases q with q | q | q
      · omega
      · exact a5 q
      · exact a4 q⟩
  · rcases hi with rfl | hi | hi
    · exact fun q => by have := hO _ q; omega
    · exact d3 i hi
    · exact (d2 i hi).1

set_option maxRecDepth 100000 in
set_option maxHeartbeats 8000000 in
theorem cfopen_any (base : Nat) (O : Foot) (r : Nat) (D : Dsk) (k m : Nat) (w : World) (env : Env w) (h : DskIs w base O r D) (k1 : 1 ≤ k) (m1 : 1 ≤ m) (on : D.n / 2 = k + m) (dk : D.dark = false) (hw : D.waits = []) (hd : D.deeds ≤ 900000) :
    Calls Tryz.prog 13 #[.pointer (some ⟨r, 0, none⟩), .int .i64 (k : Int)] w (GivesCo base O r D k m w) := by
  have HON := Lib.hid (cfon_any base O r D k m w h k1 m1 on)
  have HPO := Lib.hid (fun W (g : Below w.heap.size w W) => cfpo_any base O r D k m W (env.step g) (h.after g) k1 m1 (by omega) dk hw hd)
  have HOL := Lib.hid h.own
  have HBW : Hid (base ≤ w.heap.size) := by have := h.own r h.mem; unfold Hid; omega
  clear env h k1 m1 on dk hw hd
  unfold GivesRg at HON
  unfold GivesPo at HPO
  go_enter Tryz.func13, Tryz.ntmps13
  go_wp2_with (first
    | (go_at_call 33; (with_reducible refine (HON.out).mono ?_); rintro e w1 ⟨rfl, g1⟩; have G1 := Lib.hid (below_more g1 (.cells #[.pointer (some ⟨r, 0, none⟩), .int .i64 (k : Int), .int .i64 (m : Int)] 76)); clear g1)
    | (go_at_call 34; (with_reducible refine (HPO.out _ G1.out).mono ?_); rintro e w5 ⟨c, D', O', ep, b, rs, h1, h2, out, d5, o5, gr5, hcase⟩; have HH := Lib.hid (And.intro h1 (And.intro h2 (And.intro out (And.intro d5 (And.intro o5 gr5))))); clear h1 h2 out d5 o5 gr5; rcases hcase with ⟨rfl, a, n, rfl⟩ | ⟨rfl, gs, gb, OS, OG, OR, a, n, rfl, sl, lg, ll, x1, x2, x3⟩))
  · go_ret3
    obtain ⟨h1, h2, out, d5, o5, gr5⟩ := HH.out
    have hbz := below_more (Below.refl w5.heap.size w5) (.cells #[.pointer none, .pointer none, .int .i64 0, .int .i64 0, .pointer none, .int .i64 0, .bool false] 82)
    exact ⟨12, D', O', ep, b, rs, h1, h2, out, d5.after hbz, ((OnlyO.of G1.out HBW.out : OnlyO base O w _).trans o5 (Grown.refl _ _)).trans (OnlyO.of hbz (Nat.le_trans HBW.out (Nat.le_trans G1.out.size o5.size)) : OnlyO base O w5 _) (Grown.refl _ _), fun i hi => (gr5 i hi).imp id (fun q => Nat.le_trans G1.out.size q), Or.inl ⟨rfl, _, _, rfl⟩⟩
  · go_ret3
    obtain ⟨h1, h2, out, d5, o5, gr5⟩ := HH.out
    have hb1 := below_more (Below.refl w5.heap.size w5) (.cells #[.pointer (some ⟨gs, 0, none⟩), .pointer (some ⟨r, 0, none⟩), .int .i64 (k : Int), .int .i64 (m : Int), .pointer (some ⟨gb, 0, none⟩), .int .i64 ((rs.length : Nat) : Int), .bool false] 82)
    have hb2 := below_more hb1 (.cells #[.pointer (some ⟨gs, 0, none⟩), .pointer (some ⟨r, 0, none⟩), .int .i64 (k : Int), .int .i64 (m : Int), .pointer (some ⟨gb, 0, none⟩), .int .i64 ((rs.length : Nat) : Int), .bool false] 86)
    obtain ⟨OC, hC, hR, e1, e2⟩ := cof_made (cb := w5.heap.size + 1) (n := rs.length) hb2 (Nat.le_add_right _ _) (by simp) o5.size (CofAt.fresh _ gs r k m gb rs.length false 86 (w5.heap.size + 1) (by simp)) sl lg ll (fun i hi => (d5.own i hi).2) x1 x2 x3
    exact ⟨0, D', O', ep, b, rs, h1, h2, out, d5.after hb2, ((OnlyO.of G1.out HBW.out : OnlyO base O w _).trans o5 (Grown.refl _ _)).trans (OnlyO.of hb2 (Nat.le_trans HBW.out (Nat.le_trans G1.out.size o5.size)) : OnlyO base O w5 _) (Grown.refl _ _), fun i hi => (gr5 i hi).imp id (fun q => Nat.le_trans G1.out.size q), Or.inr ⟨rfl, w5.heap.size + 1, OC, OR, a, n, rfl, hC.base G1.out.size, hR, fun i hi => ⟨Nat.le_trans G1.out.size (e1 i hi).1, (e1 i hi).2⟩, e2⟩⟩

end Go.Proofs.YtejelednnacnaaaGreatDoor
