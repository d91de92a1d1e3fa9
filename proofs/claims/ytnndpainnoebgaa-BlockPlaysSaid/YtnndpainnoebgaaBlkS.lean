/-
  The document's own disk of layer 9, walked: Seen, New, Sync.
-/
import Derived.Test.YtnndpainnoebgaaBlkR
import Derived.Test.YtnndpainnoebgaaBlkP
namespace Go.Proofs.Ytnndpainnoebgaa
open Go.RowKit

theorem wcells_at (ws : List (Nat × List Int)) : ∀ i, i < ws.length → (wcells ws)[i * 2]? = some (.int .i64 ((ws.getD i (0, [])).1 : Int)) ∧ (wcells ws)[i * 2 + 1]? = some (.string (strOfNums (ws.getD i (0, [])).2)) := by
  induction ws with
  | nil => intro i h; cases h
  | cons p ws ih =>
    intro i h
    have e : wcells (p :: ws) = .int .i64 (p.1 : Int) :: .string (strOfNums p.2) :: wcells ws := rfl
    rw [e]
    cases i with
    | zero => exact ⟨rfl, rfl⟩
    | succ i =>
      have := ih i (by simpa using h)
      rw [show (i + 1) * 2 = i * 2 + 1 + 1 by omega]
      exact this
/-- What waits, by its cells. -/
theorem RefIs.waits {W : World} {base : Nat} {O : Foot} {r : Nat} {D : Dsk} (h : RefIs W base O r D) : ∃ a cap, DiskAt W r D.n D.size (strOfNums D.last) (.slice a D.waits.length cap) D.fuse D.dark D.deeds ∧
    ∀ i, i < D.waits.length → ∃ g, a = some ⟨g, 0, none⟩ ∧ g < W.heap.size ∧ W.cell? ⟨g, i * 2, none⟩ = some (.int .i64 ((D.waits.getD i (0, [])).1 : Int)) ∧ W.cell? ⟨g, i * 2 + 1, none⟩ = some (.string (strOfNums (D.waits.getD i (0, [])).2)) := by
  obtain ⟨_, _, _, v, hD, hrow, hv⟩ := h
  have hcs := @World.ownsRow.cells _ _ _ _ _ _ _ hrow
  have hlt := hrow.lt
  rcases hrow.2 with ⟨rfl, h0⟩ | ⟨g, cap, cur, rfl, _⟩
  · exact ⟨none, 0, by rw [h0]; exact hD, fun i hi => by rw [h0] at hi; cases hi⟩
  · refine ⟨some ⟨g, 0, none⟩, cap, hD, fun i hi => ⟨g, rfl, (hlt g rfl).2, ?_, ?_⟩⟩
    · have h1 := hcs (g := g) rfl (i * 2) _ (wcells_at D.waits i hi).1
      have e : (⟨g, 0, none⟩ : Addr).add (i * 2) = ⟨g, i * 2, none⟩ := by unfold Addr.add; split <;> simp_all
      rw [e] at h1; exact h1
    · have h1 := hcs (g := g) rfl (i * 2 + 1) _ (wcells_at D.waits i hi).2
      have e : (⟨g, 0, none⟩ : Addr).add (i * 2 + 1) = ⟨g, i * 2 + 1, none⟩ := by unfold Addr.add; split <;> simp_all
      rw [e] at h1; exact h1
theorem DiskAt.after {W W' : World} {r : Nat} {n size : Int} {last : ByteArray} {v : Value} {fuse : Int} {dark : Bool} {deeds : Int} (h : DiskAt W r n size last v fuse dark deeds) (hb : Below W.heap.size W W') : DiskAt W' r n size last v fuse dark deeds := h.kept (hb.block r h.s) hb.size

set_option maxRecDepth 100000 in
set_option maxHeartbeats 4000000 in
theorem bseen_any (base : Nat) (O : Foot) (r : Nat) (D : Dsk) (w : World) (h : RefIs w base O r D) (hd : D.deeds ≤ 2000000) :
    Calls Try.prog 24 #[.pointer (some ⟨r, 0, none⟩)] w fun e w' => e = .returned (.string (strOfNums D.seen)) ∧ Below w.heap.size w w' := by
  have hok := h.ok
  obtain ⟨a, cap, hD, hcell⟩ := h.waits
  have HD := Lib.hid hD
  have HC := Lib.hid hcell
  have hmost := hok.most
  have hN : D.waits.length ≤ 2000000 := by have := hok.wd; omega
  have HK := Lib.hid (fun k => fold_ok (N := D.n) (size := D.size) (ws := D.waits.take k) (fun q hq => hok.w q (List.mem_of_mem_take hq)) D.last hok.ll hok.lb)
  have HP := Lib.hid (fun i (hi : i < D.waits.length) => hok.w (D.waits.getD i (0, [])) (by rw [List.getD_eq_getElem?_getD, List.getElem?_eq_getElem hi]; exact List.getElem_mem _))
  have HNX := Lib.hid (fun k hk => seenAt_next D.last D.waits k hk)
  have HALL : Hid (seenAt D.last D.waits D.waits.length = D.seen) := seenAt_all D.last D.waits
  obtain ⟨N, hNd⟩ : ∃ N, D.waits.length = N := ⟨_, rfl⟩
  obtain ⟨c0, c1, c2, c3, c4, c5, c6, q, sl⟩ := hD
  rw [hNd] at hN HC HP HNX HALL HD c3
  clear h hok hcell c0 c1 c4 c5 c6 q hNd

  go_enter Try.func24, Try.ntmps24
  go_wp2
  go_loopw [3, 4] (fun v3 v4 wr => ∃ k : Nat, v4 = .int .i64 (k : Int) ∧ k ≤ N ∧ v3 = .string (strOfNums (seenAt D.last D.waits k)) ∧ Below w.heap.size w wr) (fun _ v4 _ => N - (intOf v4).toNat)
  case atStart => exact ⟨0, rfl, Nat.zero_le _, rfl, Below.refl _ _⟩
  case round =>
    obtain ⟨k, rfl, hk, rfl, hB⟩ := hrel
    have HB := Lib.hid hB
    have c3r : wr.cell? ⟨r, 3, none⟩ = some (.slice a N cap) := (HD.out.after hB).c3
    clear hB
    by_cases hlt : k < N
    · obtain ⟨g, rfl, hg, q0, q1⟩ := HC.out k hlt
      have q0r := (HB.out.cell (p := ⟨g, k * 2, none⟩) hg).trans q0
      have q1r := (HB.out.cell (p := ⟨g, k * 2 + 1, none⟩) hg).trans q1
      obtain ⟨p, hp⟩ : ∃ p, D.waits.getD k (0, []) = p := ⟨_, rfl⟩
      have hnx := HNX.out k hlt
      have hpk := HP.out k hlt
      rw [hp] at q0r q1r hnx hpk
      obtain ⟨⟨ip, hip, e1⟩, h32, _⟩ := hpk
      obtain ⟨kl, kb⟩ := HK.out k
      have hfit := fit (size := D.size) hip
      have HLAY := Lib.hid (fun w' => blay_any (seenAt D.last D.waits k) p w' kb (by show (seenAt D.last D.waits k).length ≤ 1000000; rw [show (seenAt D.last D.waits k).length = D.n * D.size from kl]; omega) (by rw [show (seenAt D.last D.waits k).length = D.n * D.size from kl]; omega))
      rw [← hnx] at HLAY
      clear hnx q0 q1 hp kl kb hfit e1 h32 hip
      have hki : (k : Int) < (N : Int) := by omega
      go_wp2_with (go_at_call 31; (with_reducible refine (HLAY.out _).mono ?_); rintro e w2 ⟨rfl, g2⟩; have HB2 := Lib.hid (below_step HB.out g2); clear g2)
      go_roundw
      case rel => exact ⟨k + 1, by go_num, hlt, rfl, HB2.out⟩
      case measure => simp [intOf]; omega
    · obtain rfl : k = N := by omega
      go_wp2
      go_ret
      rw [HALL.out]
      exact ⟨rfl, HB.out⟩

set_option maxRecDepth 100000 in
set_option maxHeartbeats 4000000 in
theorem brnew_any (n size : Nat) (w : World) (n0 : 1 ≤ n) (n1 : n ≤ 400) (s0 : 32 ≤ size) (s1 : size ≤ 512) :
    Calls Try.prog 9 #[.int .i64 (n : Int), .int .i64 (size : Int)] w fun e w' => ∃ r O, e = .returned (.pointer (some ⟨r, 0, none⟩)) ∧ RefIs w' w.heap.size O r (Dsk.new n size) ∧ Below w.heap.size w w' := by
  have hok := Lib.hid (Dsk.new_ok n0 n1 s0 s1)
  have hmost : n * size ≤ 204800 := Nat.mul_le_mul n1 s1
  obtain ⟨M, hM⟩ : ∃ M, n * size = M := ⟨_, rfl⟩
  have hmul : IntKind.i64.wrap ((n : Int) * (size : Int)) = (M : Int) := by
    have e : (n : Int) * (size : Int) = (M : Int) := by rw [← hM]; simp
    rw [e, IntKind.wrap_i64]; omega
  have HM := Lib.hid hM
  have HZ := Lib.hid (fun w => bzeros_any M w (by omega))
  clear hM
  go_enter Try.func9, Try.ntmps9
  go_wp2_with (go_at_call 25; (with_reducible refine (HZ.out _).mono ?_); rintro e w1 ⟨rfl, g1⟩; have HB1 := Lib.hid g1; clear g1)
  go_ret
  have hs1 := HB1.out.size
  have hb2 := below_more HB1.out (.cells #[.int .i64 (n : Int), .int .i64 (size : Int), .string (strOfNums (List.replicate M 0)), .slice none 0 0, .int .i64 (-1), .bool false, .int .i64 0] 38)
  refine ⟨w1.heap.size, fun i => i = w1.heap.size, rfl, ⟨hok.out, fun i hi => ?_, rfl, .slice none 0 0, ?_, World.ownsRow_nil _ _ _ _, fun g hg => by cases hg⟩, hb2⟩
  · subst hi; exact ⟨hs1, by simp⟩
  · have e : strOfNums (Dsk.new n size).last = strOfNums (List.replicate M 0) := by show strOfNums (List.replicate (n * size) 0) = _; rw [HM.out]
    rw [e]
    exact ⟨by simp; rfl, by simp; rfl, by simp, by simp, by simp; rfl, by simp; rfl, by simp; rfl, fun i => by simp [go_sem], by simp⟩

theorem deed_seen {D : Dsk} (h : D.Ok) : D.deed.2.seen = D.seen := by
  obtain ⟨_, h2, h3, _⟩ := h.deed
  unfold Dsk.seen
  rw [h2, h3]
set_option maxRecDepth 100000 in
set_option maxHeartbeats 4000000 in
theorem brsync_any (base : Nat) (O : Foot) (r : Nat) (D : Dsk) (w : World) (h : RefIs w base O r D) (hd : D.deeds ≤ 1000000) :
    Calls Try.prog 13 #[.pointer (some ⟨r, 0, none⟩)] w fun e w' => e = .returned (.int .i64 D.sync.1) ∧ RefIs w' base O r D.sync.2 ∧ OnlyO base O w w' := by
  have HR := Lib.hid h
  have HSO := Lib.hid h.ok.sync
  have hok := Lib.hid h.ok
  have hbr := (h.own r h.mem).1
  have hmem := h.mem
  obtain ⟨a, cap, hD, _⟩ := h.waits
  have c5 := hD.c5
  have sl := hD.s
  clear h hD
  cases hdk : D.dark with
  | true =>
    rw [hdk] at c5
    have hfin : Hid (D.sync = (12, D)) := by unfold Hid Dsk.sync; rw [if_pos hdk]
    go_enter Try.func13, Try.ntmps13
    go_wp2
    go_ret
    rw [hfin.out]
    exact ⟨rfl, HR.out, OnlyO.refl _ _ _⟩
  | false =>
    rw [hdk] at c5
    have HDE := Lib.hid (bdeed_any base O r D w HR.out hd)
    obtain ⟨_, hw2, hl2, hn2, hs2, hd6, hd7⟩ := hok.out.deed
    cases hq : D.deed.1 with
    | false =>
      rw [hq] at HDE
      have hfin : Hid (D.sync = (12, D.deed.2)) := by unfold Hid Dsk.sync; rw [if_neg (by rw [hdk]; simp), if_neg (by rw [hq]; simp)]
      clear hw2 hl2 hn2 hs2 hd6 hd7
      go_enter Try.func13, Try.ntmps13
      go_wp2_with (go_at_call 29; (with_reducible refine (HDE.out).mono ?_); rintro e w1 ⟨rfl, h1, g1⟩; have H1 := Lib.hid h1; have G1 := Lib.hid g1; clear h1 g1)
      go_ret
      rw [hfin.out]
      exact ⟨rfl, H1.out, G1.out⟩
    | true =>
      rw [hq] at HDE
      have hfin : Hid (D.sync = (0, { D.deed.2 with last := D.seen, waits := [] })) := by unfold Hid Dsk.sync; rw [if_neg (by rw [hdk]; simp), if_pos hq]
      have hdd : D.deed.2.deeds ≤ 2000000 := by have := (hd6 hq).1; omega
      have hse : Hid (D.deed.2.seen = D.seen) := deed_seen hok.out
      have hD1 : Hid (∀ w', RefIs w' base O r D.deed.2 → Calls Try.prog 24 #[.pointer (some ⟨r, 0, none⟩)] w' fun e w2 => e = .returned (.string (strOfNums D.seen)) ∧ Below w'.heap.size w' w2) := fun w' h => by
        rw [← hse.out]; exact bseen_any base O r D.deed.2 w' h hdd
      obtain ⟨E, hE⟩ : ∃ E, D.deed.2 = E := ⟨_, rfl⟩
      rw [hE] at HDE hfin hD1
      rw [hfin.out] at HSO
      clear hw2 hl2 hn2 hs2 hd6 hd7 hdd hse hE
      go_enter Try.func13, Try.ntmps13
      go_wp2_with (first
        | (go_at_call 29; (with_reducible refine (HDE.out).mono ?_); rintro e w1 ⟨rfl, h1, g1⟩; have H1 := Lib.hid h1; have G1 := Lib.hid g1; clear h1 g1)
        | (go_at_call 24; (with_reducible refine (hD1.out _ H1.out).mono ?_); rintro e w2 ⟨rfl, g2⟩; have H2 := Lib.hid (H1.out.after g2); have G2 := Lib.hid (G1.out.trans (OnlyO.of g2 (Nat.le_trans (Nat.le_of_lt (Nat.lt_of_le_of_lt hbr sl)) G1.out.size)) (Grown.refl _ _)); obtain ⟨a2, cap2, hd2, _⟩ := H2.out.waits; have HD2 := Lib.hid hd2; have c2 := hd2.c2; have c3 := hd2.c3; have q2 := hd2.q 2; have q3 := hd2.q 3; clear hd2 g2))
      go_ret
      rw [hfin.out]
      have hu := H2.out.upd (D' := { E with last := D.seen, waits := [] }) ((HD2.out.set.1 (strOfNums D.seen)).set.2.1 (.slice none 0 0)) (World.ownsRow_nil _ _ _ _) (fun g hg => by cases hg) HSO.out (fun j hj hne => (set_other _ r 3 _ j (by simpa using hj) hne).trans (set_other _ r 2 _ j hj hne)) (by simp)
      exact ⟨rfl, hu, (G2.out.set hmem hbr _ _).set hmem hbr _ _⟩

end Go.Proofs.Ytnndpainnoebgaa
